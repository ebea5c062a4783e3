import Derived.Test.YtmmpoppgabadmaaGreatG06
import Derived.Test.YtmmpoppgabadmaaGreatG09
set_option linter.unusedVariables false
set_option linter.unusedSimpArgs false
set_option maxRecDepth 100000
set_option maxHeartbeats 16000000
namespace Go.Proofs.YtmmpoppgabadmaaGreat
open Go.RowKit
theorem Z4.logNew {w wr:World}{B b:Nat}{r:Rn}{x:RV}{g:List Ent}{v:Value}(h:Z4 w B b r x)(hb:Below w.heap.size w wr)(ho:Zd wr w.heap.size v g) :
  Z4 (wr.setCell ⟨b,12,none⟩ v) B b { r with n:={ r.n with log:=g } } { x with vl:=v }/\Below B w (wr.setCell ⟨b,12,none⟩ v)/\w.grownBy (wr.setCell ⟨b,12,none⟩ v) (some b):=by
 have hr:=h.below hb;have hk:∀ k,k≠b->(wr.setCell ⟨b,12,none⟩ v).heap[k]? = wr.heap[k]?:=fun k hk=>Below.heap_setCell _ _ _ _ hk
 have hg:∀ {α:Type} {cs:α->List Value} {m:Nat} {T:TypeId} {v':Value} {l:List α},T≠112->Z6 cs m T wr B v' l->Z6 cs m T (wr.setCell ⟨b,12,none⟩ v) B v' l:=fun hT ho=>ho.block fun k hk'=>hk k (Zm ho hr.blk hT k hk')
 have he:∀ {v':Value} {l:List Ent},Zd wr B v' l->Zd (wr.setCell ⟨b,12,none⟩ v) B v' l:=fun ho=>ho.block fun k hk'=>hk k (Yp ho hr.blk (by decide) k hk')
 have hBw:B<=w.heap.size:=Nat.le_trans h.lo (Nat.le_of_lt h.lt);exact ⟨⟨hr.blk.set 12 v,h.lo,he (ho.le hBw),hg (by decide) hr.gr,hg (by decide) hr.nx,hg (by decide) hr.mt,hg (by decide) hr.se,hg (by decide) hr.st,hg (by decide) hr.out,hr.outC,fun p hp=>he (hr.ents p hp),h.ap⟩,(hb.mono hBw).setCell (p:=⟨b,12,none⟩) h.lo v,Zt (gb_of _ hb) (Rd.frame 12 _)⟩
theorem Es.elder {w w':World}{B:Nat}{v:Value}{l:List Ent}(h:Es w v l)(hlo:∀ k,v.ownBlock=some k->k<B)(hb:Below B w w'):Es w' v l:=by
 obtain ⟨hl,hf,a,cap,rfl,hc⟩:=h;refine ⟨hl,hf,a,cap,rfl,fun i hi=>?_⟩;obtain ⟨g,off,rfl,hj⟩:=hc i hi;refine ⟨g,off,rfl,fun j h=>?_⟩;obtain ⟨c0,c1,c2,c3,c4,c5,c6⟩:=hj j h;have hg:g<B:=hlo g rfl;exact ⟨(hb.cell (p:=⟨g,_,none⟩) hg).trans c0,(hb.cell (p:=⟨g,_,none⟩) hg).trans c1,(hb.cell (p:=⟨g,_,none⟩) hg).trans c2,(hb.cell (p:=⟨g,_,none⟩) hg).trans c3,(hb.cell (p:=⟨g,_,none⟩) hg).trans c4,(hb.cell (p:=⟨g,_,none⟩) hg).trans c5,(hb.cell (p:=⟨g,_,none⟩) hg).trans c6⟩
theorem Es.take {w:World}{a:Option Addr}{n c:Nat}{l:List Ent}(h:Es w (.slice a n c) l)(k:Nat)(hk:k<=l.length):Es w (.slice a k c) (l.take k):=by
 obtain ⟨hl,hf,a',c',e,hc⟩:=h;simp only [Value.slice.injEq] at e;obtain ⟨rfl,-,rfl⟩:=e;have hlen:(l.take k).length=k:=by rw [List.length_take];omega
 refine ⟨by omega,fun e he=>hf e (List.mem_of_mem_take he),a,c,by rw [hlen],fun i hi=>?_⟩;obtain ⟨b,off,rfl,hj⟩:=hc i (by omega);refine ⟨b,off,rfl,fun j h=>?_⟩;rw [List.getElem_take];exact hj j (by omega)
theorem parts_le (log:List Ent):∀(es:List Ent) (p:Nat),p<=log.length->p+Y0 log p es<=log.length
 | [],p,h=>h
 | e :: es,p,h=>by
  rw [Y0];split
  ·rename_i hc
   have hlt:p<log.length:=by
    rcases Nat.lt_or_ge p log.length with h | h
    ·exact h
    ·rw [List.getElem?_eq_none h] at hc;cases hc
   have:=parts_le log es (p+1) hlt;omega
  ·exact h
theorem parts_le2 (log:List Ent):∀(es:List Ent) (p:Nat),Y0 log p es<=es.length
 | [],p=>Nat.le_refl _
 | e :: es,p=>by
  rw [Y0];have:=parts_le2 log es (p+1);split <;> simp <;> omega
theorem Z5l (es:List Ent)(i k:Nat)(hi:i<=k)(hk:k<es.length):(es.take (k+1)).drop i=(es.take k).drop i ++ [es[k]]:=by
 rw [List.take_succ_eq_append_getElem hk,List.drop_append_of_le_length (by rw [List.length_take];omega)]
theorem Zd.sl3 {w:World}{B:Nat}{v:Value}{l:List Ent}(h:Zd w B v l):∃ a n c,v=.slice a n c:=by obtain ⟨a,c,e⟩:=h.shape;exact ⟨a,_,c,e⟩
theorem Zd.cap {w:World}{B:Nat}{a:Option Addr}{n c:Nat}{l:List Ent}(h:Zd w B (.slice a n c) l):n<=c/\n=l.length/\(0<c->∃ g,a=some ⟨g,0,none⟩):=by
 obtain ⟨-,-,⟨e,e2⟩ | ⟨g,cap,cur,e,-,-,h1,-⟩⟩:=h
 ·simp only [Value.slice.injEq] at e
  obtain ⟨rfl,rfl,rfl⟩:=e;exact ⟨Nat.le_refl _,by omega,fun h=>by omega⟩
 ·simp only [Value.slice.injEq] at e
  obtain ⟨rfl,rfl,rfl⟩:=e;exact ⟨h1,rfl,fun _=>⟨g,rfl⟩⟩
theorem l4parts_run {w:World}{B b:Nat}{r:Rn}{x:RV}(h:Z4 w B b r x)(hb:NdB r.n)(m:Mg)(ea:Option Addr)(ec:Nat)(z:World)(hz:Below w.heap.size w z)(he:Es w (.slice ea m.es.length ec) m.es)(hes:m.es.length<=32)(h0:0<=m.li)(h1:m.li<=4096):Calls Tryz.prog 151 #[.agg (ndC r.n x),.agg #[.int .i64 m.ki,.int .i64 m.fr,.int .i64 m.td,.int .i64 m.tm,.int .i64 m.li,.int .i64 m.lt,.int .i64 m.cm,.int .i64 m.ok,.int .i64 m.hi,.slice ea m.es.length ec]] z fun e w'=>e=.returned (.int .i64 (Y0 r.n.log m.li.toNat m.es:Nat))/\Below z.heap.size z w':=by
 have hl:=(h.below hz).es (by have:=hb.ln;omega);obtain ⟨la,lc,hvl⟩:=h.log.shape;obtain ⟨a13,c13,hv13⟩:=h.gr.shape;obtain ⟨a14,c14,hv14⟩:=h.nx.shape;obtain ⟨a15,c15,hv15⟩:=h.mt.shape;obtain ⟨a16,c16,hv16⟩:=h.se.shape;obtain ⟨a17,c17,hv17⟩:=h.st.shape;unfold ndC;rw [hvl] at hl;rw [hvl,hv13,hv14,hv15,hv16,hv17];exact l4parts_any r.n m la ea lc ec _ _ _ _ _ z hl (he.below hz) (.mk _ _ _) (.mk _ _ _) (.mk _ _ _) (.mk _ _ _) (.mk _ _ _) (by have:=hb.ln;omega) (by omega) h0 (by omega)
theorem Xm {o:Oper}{a:Act}{w:World}{K:Act->World->Prop}{Q:Exit->Act->World->Prop}(y z:Operand)(ho:o.op=.store 3 y z){b i:Nat}{v u:Int}(hy:a.eval y=.pointer (some ⟨b,i,none⟩))(hz:a.eval z=.int .i64 v)(hc:w.cell? ⟨b,i,none⟩=some (.int .i64 u))(hf:w.frozen? ⟨b,i,none⟩=false)(hd:o.dst=none)(h:K a (w.setCell ⟨b,i,none⟩ (.int .i64 v))):o.wp Tryz.prog a w K Q:=by
 unfold Oper.wp execOp;simp only [ho,hy,hz];go_simp;exact h
def apB (n:Nd)(m:Mg):Bool:=decide ((n.log.length:Int)<m.li) || (decide (0<m.li) && (Yb n.log m.li.toNat != m.lt))
theorem apB_iff (n:Nd)(m:Mg)(h:0<=m.li):apB n m=true↔n.log.length<m.li.toNat∨(0<m.li/\Yb n.log m.li.toNat≠m.lt):=by
 unfold apB;simp only [Bool.or_eq_true,Bool.and_eq_true,decide_eq_true_eq,bne_iff_ne];constructor
 ·rintro (h1 | h1)
  ·left;omega
  ·exact .inr h1
 ·rintro (h1 | h1)
  ·left;omega
  ·exact .inr h1
def apR (r1:Rn)(m:Mg):Rn:=Rn.timer { r1.lone with n:={ r1.lone.n with ld:=m.fr,hd:=r1.n.nw } }
def apEnd (r:Rn)(m:Mg):Rn:=
 if apB r.n m=true then r.send ⟨6,0,m.fr,r.n.tm,m.li,0,0,0,min (r.n.log.length:Int) (m.li-1),[]⟩
 else if Y0 r.n.log m.li.toNat m.es<m.es.length/\m.li+(Y0 r.n.log m.li.toNat m.es:Nat)+1<=r.n.cm then r.stale
 else Rn.send { r with n:={ r.n with log:=if Y0 r.n.log m.li.toNat m.es<m.es.length then r.n.log.take (m.li.toNat+Y0 r.n.log m.li.toNat m.es) ++ m.es.drop (Y0 r.n.log m.li.toNat m.es) else r.n.log,cm:=max r.n.cm (min m.cm (m.li+m.es.length)) } } ⟨6,0,m.fr,r.n.tm,m.li+m.es.length,0,0,1,0,[]⟩
theorem append_eq (r:Rn)(m:Mg)(h:0<=m.li):r.append m=if m.tm<r.n.tm then r.send ⟨6,0,m.fr,r.n.tm,m.li,0,0,0,0,[]⟩ else if (r.higher m.tm).n.ro=3 then (r.higher m.tm).stale else apEnd (apR (r.higher m.tm) m) m:=by
 unfold Rn.append apEnd;split
 ·rfl
 simp only;split
 ·rfl
 by_cases hc:apB (apR (r.higher m.tm) m).n m=true
 ·rw [if_pos hc]
  exact if_pos ((apB_iff _ m h).1 hc)
 ·rw [if_neg hc]
  exact if_neg (fun h'=>hc ((apB_iff _ m h).2 h'))
theorem l4append_any (b:Nat)(r:Rn)(x:RV)(m:Mg)(ea:Option Addr)(ec:Nat)(w:World)(B:Nat)(h:Z4 w B b r x)(he:Es w (.slice ea m.es.length ec) m.es)(hlo:∀ k,(Value.slice ea m.es.length ec).ownBlock=some k->k<B)(hb:NdB r.n)(hd : -(2^63)<=r.draw)(hD:r.draw<2^63)(hl:x.L.length<=900)(hli0:0<=m.li)(hli1:m.li<=4096)(hes:m.es.length<=32) :
  Calls Tryz.prog 123 #[.pointer (some ⟨b,0,none⟩),.agg #[.int .i64 m.ki,.int .i64 m.fr,.int .i64 m.td,.int .i64 m.tm,.int .i64 m.li,.int .i64 m.lt,.int .i64 m.cm,.int .i64 m.ok,.int .i64 m.hi,.slice ea m.es.length ec]] w fun e w'=>∃ x',e=.returned (.tuple #[])/\Z4 w' B b (r.append m) x'/\Below B w w':=by
 have HRw:Hid (∀ z,Below w.heap.size w z->Z4 z B b r x):=fun z hz=>h.below hz
 have HEs:Hid (∀ z,Below B w z->Es z (.slice ea m.es.length ec) m.es):=fun z hz=>he.elder hlo hz
 have HVo:Hid (∀ g,x.vo.ownBlock=some g->g<w.heap.size):=fun g e=>(h.out.lts g e).2
 have hBw:B<=w.heap.size:=Nat.le_trans h.lo (Nat.le_of_lt h.lt);have hbl:=h.lt;have HQ:Hid (r.append m=_):=append_eq r m hli0;have HAd:Hid (∀ z,Z4 z B b r x->Calls Tryz.prog 149 #[.pointer (some ⟨b,0,none⟩),.int .i64 m.tm] z fun e w'=>e=.returned (.tuple #[])/\Z4 w' B b (r.adopt m.tm) x.lone/\Below B z w'/\z.grownBy w' (some b)):=fun z hz=>Z0n b r x m.tm z B hz hd hD hb.nw0 hb.nw1
 have HHi:Hid (r.higher m.tm=if r.n.tm<m.tm then r.adopt m.tm else r):=rfl;obtain ⟨R1,hR1⟩:∃ R1,R1=r.higher m.tm:=⟨_,rfl⟩;have HB1:Hid (NdB R1.n):=by rw [hR1];exact hb.higher m.tm
 have HD1:Hid (-(2^63)<=R1.draw/\R1.draw<2^63):=by rw [hR1,Z16];exact ⟨hd,hD⟩
 rw [<-hR1] at HQ HHi;generalize r.append m=RP at *;obtain ⟨w1,hw1⟩:∃ z,z=(w.alloc (.cells #[.int .i64 m.ki,.int .i64 m.fr,.int .i64 m.td,.int .i64 m.tm,.int .i64 m.li,.int .i64 m.lt,.int .i64 m.cm,.int .i64 m.ok,.int .i64 m.hi,.slice ea m.es.length ec] 43)).alloc (.cells #[.int .i64 6,.int .i64 0,.int .i64 m.fr,.int .i64 0,.int .i64 m.li,.int .i64 0,.int .i64 0,.int .i64 0,.int .i64 0,.slice none 0 0] 43):=⟨_,rfl⟩;have HB0:Hid (Below w.heap.size w w1):=by rw [hw1];exact ((Below.refl _ _).alloc (Nat.le_refl _) _).alloc (by simp) _
 have BM1:Hid (Blk w1 w.heap.size #[.int .i64 m.ki,.int .i64 m.fr,.int .i64 m.td,.int .i64 m.tm,.int .i64 m.li,.int .i64 m.lt,.int .i64 m.cm,.int .i64 m.ok,.int .i64 m.hi,.slice ea m.es.length ec] 43):=by rw [hw1];exact (Blk.new _ _ _).alloc _
 have BA1:Hid (Blk w1 (w.heap.size+1) #[.int .i64 6,.int .i64 0,.int .i64 m.fr,.int .i64 0,.int .i64 m.li,.int .i64 0,.int .i64 0,.int .i64 0,.int .i64 0,.slice none 0 0] 43):=by rw [hw1];exact Blk.new' _ _ _ (by simp)
 have hz1:w.heap.size+1<w1.heap.size:=BA1.out.lt;clear h he hR1;go_enter Tryz.func123,Tryz.ntmps123
 go_upto_region 2 with fail
 rw [<-hw1];clear hw1;have n3:w1.cell? ⟨w.heap.size,3,none⟩=some (.int .i64 m.tm):=BM1.out.cell 3;have k4:w1.cell? ⟨b,4,none⟩=some (.int .i64 r.n.tm):=(HRw.out _ HB0.out).blk.cell 4;go_quiet (fail)
 obtain ⟨w4,hw4⟩:∃ z,z=w1.drewN nq:=⟨_,rfl⟩;have hb4:Below w1.heap.size w1 w4:=by rw [hw4];exact ⟨rfl,rfl,rfl,Nat.le_refl _,fun _ _=>rfl⟩
 rw [<-hw4];have HB4:Hid (Below w.heap.size w w4):=HB0.out.trans (hb4.mono (by omega));have BM4:Hid (Blk w4 w.heap.size _ 43):=BM1.out.below hb4 (by omega);have BA4:Hid (Blk w4 (w.heap.size+1) _ 43):=BA1.out.below hb4 hz1;have hz4:w.heap.size+1<w4.heap.size:=BA4.out.lt;clear hw4 hb4 k4 n3 HB0 BM1 BA1 hz1
 go_upto_if 22 with fail
 by_cases ht:m.tm<r.n.tm
 ·have HQ3:Hid (RP=r.send ⟨6,0,m.fr,r.n.tm,m.li,0,0,0,0,[]⟩):=HQ.out.trans (if_pos ht)
  have hdt:decide (m.tm<r.n.tm)=true:=decide_eq_true ht;have k4:w4.cell? ⟨b,4,none⟩=some (.int .i64 r.n.tm):=(HRw.out _ HB4.out).blk.cell 4;have a3:w4.cell? ⟨w.heap.size+1,3,none⟩=some (.int .i64 0):=BA4.out.cell 3;have g3:w4.frozen? ⟨w.heap.size+1,3,none⟩=false:=BA4.out.free 3;obtain ⟨w6,hw6⟩:∃ z,z=w4.setCell ⟨w.heap.size+1,3,none⟩ (.int .i64 r.n.tm):=⟨_,rfl⟩;have HA6:Hid (Blk w6 (w.heap.size+1) #[.int .i64 6,.int .i64 0,.int .i64 m.fr,.int .i64 r.n.tm,.int .i64 m.li,.int .i64 0,.int .i64 0,.int .i64 0,.int .i64 0,.slice none 0 0] 43):=by rw [hw6];exact BA4.out.set 3 _
  have HB6:Hid (Below w.heap.size w w6):=by rw [hw6];exact HB4.out.setCell (p:=⟨w.heap.size+1,3,none⟩) (by show _<=w.heap.size+1;omega) _
  have HS6:Hid _:=Js b r x ⟨6,0,m.fr,r.n.tm,m.li,0,0,0,0,[]⟩ none 0 w6 B (HRw.out _ HB6.out) (Zd.nil _ _) (by omega);have Hw6:Hid _:=hw6;have G2:Hid True:=trivial;rw [hdt];clear HQ ht hdt hw6
  go_wp2_with (first
   |(have hBA:=G2;refine Z7 43 (.tmp 4) rfl ?_;clear hBA;rw [<-Hw6.out];refine Z3 rfl 43 (.tmp 4) rfl (w.heap.size+1) rfl HA6.out Tryz.underlying43 rfl Zy rfl ?_;clear G2)
   |(go_at_call 146;refine Calls.mono HS6.out ?_;rintro e w9 ⟨v9,y9,rfl,hR9,hb9,-⟩;have HR9:Hid _:=hR9;have HB9:Hid (Below B w w9):=(HB6.out.mono hBw).trans hb9;clear hR9 hb9))
  (try simp only [Exit.inBlock,Exit.then])
  exact bodyPost_ret (results_none rfl _ _ _) rfl ⟨_,rfl,by rw [HQ3.out];exact HR9.out,HB9.out⟩
 have HQ2:Hid (RP=if R1.n.ro=3 then R1.stale else apEnd (apR R1 m) m):=HQ.out.trans (if_neg ht);have hdt:decide (m.tm<r.n.tm)=false:=decide_eq_false ht;rw [hdt];clear HQ ht hdt;have n3:w4.cell? ⟨w.heap.size,3,none⟩=some (.int .i64 m.tm):=BM4.out.cell 3;have k4:w4.cell? ⟨b,4,none⟩=some (.int .i64 r.n.tm):=(HRw.out _ HB4.out).blk.cell 4
 go_upto_region 5 with fail
 go_quiet (fail)
 obtain ⟨w5,hw5⟩:∃ z,z=w4.drewN nq:=⟨_,rfl⟩;have hb5:Below w4.heap.size w4 w5:=by rw [hw5];exact ⟨rfl,rfl,rfl,Nat.le_refl _,fun _ _=>rfl⟩
 rw [<-hw5];have HB5:Hid (Below w.heap.size w w5):=HB4.out.trans (hb5.mono (by omega));have BM5:Hid (Blk w5 w.heap.size _ 43):=BM4.out.below hb5 (by omega);have BA5:Hid (Blk w5 (w.heap.size+1) _ 43):=BA4.out.below hb5 hz4;have hz5:w.heap.size+1<w5.heap.size:=BA5.out.lt;clear hw5 hb5 k4 n3 HB4 BM4 BA4 hz4;have n3:w5.cell? ⟨w.heap.size,3,none⟩=some (.int .i64 m.tm):=BM5.out.cell 3
 go_upto_if 39 with fail
 go_cut [] (fun wx=>∃ x1:RV,Z4 wx B b R1 x1/\x1.L=x.L/\Below B w wx/\Blk wx w.heap.size #[.int .i64 m.ki,.int .i64 m.fr,.int .i64 m.td,.int .i64 m.tm,.int .i64 m.li,.int .i64 m.lt,.int .i64 m.cm,.int .i64 m.ok,.int .i64 m.hi,.slice ea m.es.length ec] 43/\Blk wx (w.heap.size+1) #[.int .i64 6,.int .i64 0,.int .i64 m.fr,.int .i64 0,.int .i64 m.li,.int .i64 0,.int .i64 0,.int .i64 0,.int .i64 0,.slice none 0 0] 43/\x1.vo=x.vo)
 case first=>
  by_cases ht:r.n.tm<m.tm
  ·have hdt:decide (r.n.tm<m.tm)=true:=decide_eq_true ht
   have HHi2:Hid (R1=r.adopt m.tm):=HHi.out.trans (if_pos ht);rw [hdt];clear HHi ht hdt
   go_wp2_with (first
    |(go_at_call 149;refine (HAd.out _ (HRw.out _ HB5.out)).mono ?_;rintro e w6 ⟨rfl,h6,b6,g6⟩;have H6:Hid _:=h6;have B6:Hid (Below B w w6):=(HB5.out.mono hBw).trans b6;have M6:Hid (Blk w6 w.heap.size _ 43):=BM5.out.grown g6 (by omega);have A6:Hid (Blk w6 (w.heap.size+1) _ 43):=BA5.out.grown g6 (by omega);clear h6 b6 g6))
   go_meet;exact ⟨x.lone,by rw [HHi2.out];exact H6.out,rfl,B6.out,M6.out,A6.out,rfl⟩
  ·have hdt:decide (r.n.tm<m.tm)=false:=decide_eq_false ht
   have HHi2:Hid (R1=r):=HHi.out.trans (if_neg ht);rw [hdt];clear HHi ht hdt
   go_wp2_with (fail)
   go_meet;exact ⟨x,by rw [HHi2.out];exact HRw.out _ HB5.out,rfl,HB5.out.mono hBw,BM5.out,BA5.out,rfl⟩
 case rest=>
  obtain ⟨x1,hR,hxL,hBc,hMc,hAc,hVo⟩:=hcut;obtain ⟨w6,hw6⟩:∃ z,z=wc:=⟨_,rfl⟩;rw [<-hw6] at hR hBc hMc hAc;subst hw6;have HR6:Hid _:=hR;have HB6:Hid _:=hBc;have BM6:Hid (Blk w6 w.heap.size _ 43):=hMc;have BA6:Hid (Blk w6 (w.heap.size+1) _ 43):=hAc;have HVo1:Hid (∀ g,x1.vo.ownBlock=some g->g<w.heap.size):=by unfold Hid;rw [hVo];exact HVo.out
  have HxL:Hid (x1.L.length<=900):=by unfold Hid;rw [hxL];exact hl
  have hz6:w.heap.size+1<w6.heap.size:=hAc.lt;have k6:w6.cell? ⟨b,6,none⟩=some (.int .i64 R1.n.ro):=hR.blk.cell 6;clear hR hBc hMc hAc hVo hxL hl n3 HRw HAd HHi hb hz5 HB5 BM5 BA5 hd hD HVo;by_cases hro:R1.n.ro=3
  ·have hrb:(R1.n.ro == 3)=true:=by simpa using hro
   have HQ3:Hid (RP=R1.stale):=HQ2.out.trans (if_pos hro);have k19:w6.cell? ⟨b,19,none⟩=some (.int .i64 R1.code):=HR6.out.blk.cell 19;have f19:w6.frozen? ⟨b,19,none⟩=false:=HR6.out.blk.free 19;clear HQ2 hro
   go_wp2_with (fail)
   (try simp only [Exit.inBlock,Exit.then])
   refine bodyPost_ret (results_none rfl _ _ _) rfl ⟨x1,rfl,?_,HB6.out.trans (HR6.out.setB 19 _)⟩;rw [HQ3.out];exact HR6.out.set 19 _ rfl rfl rfl rfl rfl rfl rfl rfl
  have hrb:(R1.n.ro == 3)=false:=by simpa using hro
  obtain ⟨R2,hR2⟩:∃ R2,R2=apR R1 m:=⟨_,rfl⟩;have HQ3:Hid (RP=apEnd R2 m):=by have:=HQ2.out.trans (if_neg hro);rw [<-hR2] at this;exact this
  obtain ⟨RA,hRA⟩:∃ RA:Rn,RA={ R1.lone with n:={ R1.lone.n with ld:=m.fr,hd:=R1.n.nw } }:=⟨_,rfl⟩;have HR2:Hid (R2=RA.timer):=by rw [hR2,hRA];rfl
  have HB2:Hid (NdB R2.n):=by rw [hR2];exact ⟨HB1.out.nw0,HB1.out.nw1,HB1.out.nw0,Int.le_refl _,HB1.out.sz0,HB1.out.sz1,HB1.out.id0,HB1.out.id1,HB1.out.ln⟩
  have HTm:Hid (∀ z X,Z4 z B b RA X->Calls Tryz.prog 115 #[.pointer (some ⟨b,0,none⟩)] z fun e w'=>e=.returned (.tuple #[])/\Z4 w' B b R2 X/\Below B z w'/\z.grownBy w' (some b)):=fun z X hz=>by rw [HR2.out];exact Jx b RA X z B hz (by rw [hRA];exact HD1.out.1) (by rw [hRA];exact HD1.out.2) (by rw [hRA];exact HB1.out.nw0) (by rw [hRA];exact HB1.out.nw1)
  clear HQ2 hro hR2 HR2
  go_upto_region 10 with (first
   |(go_at_call 114;refine Calls.mono (Z0a b R1 x1 w6 B HR6.out) ?_;rintro e w7 ⟨rfl,h7,b7,g7⟩;have HR7:Hid _:=h7;have HB7:Hid (Below B w w7):=HB6.out.trans b7;have BM7:Hid (Blk w7 w.heap.size _ 43):=BM6.out.grown g7 (by omega);have BA7:Hid (Blk w7 (w.heap.size+1) _ 43):=BA6.out.grown g7 (by omega);clear h7 b7 g7))
  have n1:w7.cell? ⟨w.heap.size,1,none⟩=some (.int .i64 m.fr):=BM7.out.cell 1;have c7:w7.cell? ⟨b,7,none⟩=some (.int .i64 R1.lone.n.ld):=HR7.out.blk.cell 7;have f7:w7.frozen? ⟨b,7,none⟩=false:=HR7.out.blk.free 7;have c9:w7.cell? ⟨b,9,none⟩=some (.int .i64 R1.n.nw):=HR7.out.blk.cell 9;have c11:w7.cell? ⟨b,11,none⟩=some (.int .i64 R1.lone.n.hd):=HR7.out.blk.cell 11;have f11:w7.frozen? ⟨b,11,none⟩=false:=HR7.out.blk.free 11;have hnb:¬ b=w.heap.size:=by omega
  have hnb1:¬ b=w.heap.size+1:=by omega
  have hnb2:¬ w.heap.size+1=b:=by omega
  go_upto_region 12 with fail
  obtain ⟨w8,hw8⟩:∃ z,z=(w7.setCell ⟨b,7,none⟩ (.int .i64 m.fr)).setCell ⟨b,11,none⟩ (.int .i64 R1.n.nw):=⟨_,rfl⟩
  have HR8:Hid (Z4 w8 B b RA x1.lone):=by
   rw [hw8,hRA];exact (HR7.out.set (r':={ R1.lone with n:={ R1.lone.n with ld:=m.fr } }) 7 _ rfl rfl rfl rfl rfl rfl rfl rfl).set 11 _ rfl rfl rfl rfl rfl rfl rfl rfl
  have hg8:w7.grownBy w8 (some b):=by rw [hw8];exact Zt (Rd.frame 7 _) (Rd.frame 11 _)
  have HB8:Hid (Below B w w8):=by rw [hw8];exact (HB7.out.setCell (p:=⟨b,7,none⟩) HR7.out.lo _).setCell (p:=⟨b,11,none⟩) HR7.out.lo _
  have BM8:Hid (Blk w8 w.heap.size _ 43):=BM7.out.grown hg8 (by omega);have BA8:Hid (Blk w8 (w.heap.size+1) _ 43):=BA7.out.grown hg8 (by omega);rw [<-hw8];clear hw8 hg8 hRA n1 c7 f7 c9 c11 f11 HR7 HB7 BM7 BA7 HR6 HB6 BM6 BA6 k6
  go_upto_region 13 with (first
   |(go_at_call 115;refine Calls.mono (HTm.out w8 x1.lone HR8.out) ?_;rintro e wa ⟨rfl,ha,ba,ga⟩;have HRa:Hid _:=ha;have HBa:Hid (Below B w wa):=HB8.out.trans ba;have BMa:Hid (Blk wa w.heap.size _ 43):=BM8.out.grown ga (by omega);have BAa:Hid (Blk wa (w.heap.size+1) _ 43):=BA8.out.grown ga (by omega);clear ha ba ga))
  have c4:wa.cell? ⟨b,4,none⟩=some (.int .i64 R2.n.tm):=HRa.out.blk.cell 4;have a3:wa.cell? ⟨w.heap.size+1,3,none⟩=some (.int .i64 0):=BAa.out.cell 3;have g3:wa.frozen? ⟨w.heap.size+1,3,none⟩=false:=BAa.out.free 3;have n4:wa.cell? ⟨w.heap.size,4,none⟩=some (.int .i64 m.li):=BMa.out.cell 4;have hnb3:¬ w.heap.size=w.heap.size+1:=by omega
  have hnb4:¬ w.heap.size+1=w.heap.size:=by omega
  go_upto_region 15 with fail
  obtain ⟨wb,hwb⟩:∃ z,z=wa.setCell ⟨w.heap.size+1,3,none⟩ (.int .i64 R2.n.tm):=⟨_,rfl⟩;obtain ⟨X,hX⟩:∃ X,X=x1.lone:=⟨_,rfl⟩;have HXL:Hid (X.L.length<=900):=by rw [hX];exact HxL.out
  have HVoX:Hid (∀ g,X.vo.ownBlock=some g->g≠w.heap.size+1):=by rw [hX];exact fun g e=>by have:=HVo1.out g e;omega
  have hkb:∀ k,k≠w.heap.size+1->wb.heap[k]? = wa.heap[k]?:=fun k hk=>by rw [hwb];exact Below.heap_setCell _ _ _ _ hk
  have HRb:Hid (Z4 wb B b R2 X):=by rw [hX];exact HRa.out.other BAa.out (fun g e=>by have:=HVo1.out g e;omega) (fun k hk _=>hkb k hk)
  have HBb:Hid (Below B w wb):=by rw [hwb];exact HBa.out.setCell (p:=⟨w.heap.size+1,3,none⟩) (by show _<=w.heap.size+1;omega) _
  have BMb:Hid (Blk wb w.heap.size _ 43):=BMa.out.keep (hkb _ (by omega));have BAb:Hid (Blk wb (w.heap.size+1) #[.int .i64 6,.int .i64 0,.int .i64 m.fr,.int .i64 R2.n.tm,.int .i64 m.li,.int .i64 0,.int .i64 0,.int .i64 0,.int .i64 0,.slice none 0 0] 43):=by rw [hwb];exact BAa.out.set 3 _
  have hzb:w.heap.size+1<wb.heap.size:=BAb.out.lt;rw [<-hwb];clear hwb hX hkb c4 a3 g3 n4 HRa HBa BMa BAa HVo1 HxL HTm HR8 HB8 BM8 BA8;have hln:=HB2.out.ln;obtain ⟨la,lc,hvl⟩:=HRb.out.log.shape;have HVl:Hid (X.vl=.slice la R2.n.log.length lc):=hvl;have HLo:Hid (Zd wb B (.slice la R2.n.log.length lc) R2.n.log):=by unfold Hid;rw [<-hvl];exact HRb.out.log
  have c12:wb.cell? ⟨b,12,none⟩=some (.slice la R2.n.log.length lc):=by rw [<-hvl];exact HRb.out.blk.cell 12
  have n5:wb.cell? ⟨w.heap.size,5,none⟩=some (.int .i64 m.lt):=BMb.out.cell 5;clear hvl
  go_cut [106] (fun s wx=>s=.bool (apB R2.n m)/\Below wb.heap.size wb wx)
  case first=>
   by_cases h1:(R2.n.log.length:Int)<m.li
   ·have HV:Hid (apB R2.n m=true):=by unfold Hid apB;rw [decide_eq_true h1];rfl
    have hd1:decide ((R2.n.log.length:Int)<m.li)=true:=decide_eq_true h1;generalize apB R2.n m=VB at *;clear h1;go_quiet (fail)
    go_wp2_with fail
    go_meet;exact ⟨by rw [HV.out],⟨rfl,rfl,rfl,Nat.le_refl _,fun _ _=>rfl⟩⟩
   ·have hd1:decide ((R2.n.log.length:Int)<m.li)=false:=decide_eq_false h1
    by_cases h2:0<m.li
    ·have hd2:decide (0<m.li)=true:=decide_eq_true h2
     obtain ⟨q,hq⟩:∃ q:Nat,(q:Int)=m.li-1:=⟨(m.li-1).toNat,by omega⟩;have hw1:IntKind.i64.wrap (m.li-1)=(q:Int):=by rw [IntKind.wrap_i64];omega
     have hi1:(q:Int)<(R2.n.log.length:Int):=by omega
     obtain ⟨lb,lo,rfl,ct⟩:=Z1q (HLo.out.es (by unfold maxLen;omega)) q (by omega);obtain ⟨T,hT⟩:∃ T,T=(R2.n.log[q]'(by omega)).t:=⟨_,rfl⟩
     have HV:Hid (apB R2.n m=(T != m.lt)):=by
      unfold Hid apB Yb;rw [hd1,hd2,if_neg (by omega),show m.li.toNat-1=q by omega,List.getElem?_eq_getElem (by omega),hT];rfl
     rw [<-hT] at ct;generalize apB R2.n m=VB at *;clear h1 h2 hT hq;go_quiet (fail)
     go_wp2_with fail
     go_meet;exact ⟨by rw [HV.out],⟨rfl,rfl,rfl,Nat.le_refl _,fun _ _=>rfl⟩⟩
    ·have hd2:decide (0<m.li)=false:=decide_eq_false h2
     have HV:Hid (apB R2.n m=false):=by unfold Hid apB;rw [hd1,hd2];rfl
     generalize apB R2.n m=VB at *;clear h1 h2;go_quiet (fail)
     go_wp2_with fail
     go_meet;exact ⟨by rw [HV.out],⟨rfl,rfl,rfl,Nat.le_refl _,fun _ _=>rfl⟩⟩
  case rest=>
   obtain ⟨rfl,hBd⟩:=hcut;obtain ⟨wd,hwd⟩:∃ z,z=wc:=⟨_,rfl⟩;rw [<-hwd] at hBd;subst hwd;have HRd:Hid (Z4 wd B b R2 X):=HRb.out.below hBd;have HBd:Hid (Below B w wd):=HBb.out.trans (hBd.mono (Nat.le_trans hBw (by omega)));have BMd:Hid (Blk wd w.heap.size _ 43):=BMb.out.below hBd (by omega);have BAd:Hid (Blk wd (w.heap.size+1) _ 43):=BAb.out.below hBd hzb;have HLd:Hid (Zd wd B (.slice la R2.n.log.length lc) R2.n.log):=HLo.out.below hBd;have hzd:w.heap.size+1<wd.heap.size:=BAd.out.lt;have c12:wd.cell? ⟨b,12,none⟩=some (.slice la R2.n.log.length lc):=by rw [<-HVl.out];exact HRd.out.blk.cell 12
   clear hBd n5 c12 HRb HBb BMb BAb HLo hzb;have c12:wd.cell? ⟨b,12,none⟩=some (.slice la R2.n.log.length lc):=by rw [<-HVl.out];exact HRd.out.blk.cell 12
   go_upto_if 106 with fail
   by_cases hv:apB R2.n m=true
   ·have HQ4:Hid (RP=R2.send ⟨6,0,m.fr,R2.n.tm,m.li,0,0,0,min (R2.n.log.length:Int) (m.li-1),[]⟩):=HQ3.out.trans (if_pos hv)
    have a8:wd.cell? ⟨w.heap.size+1,8,none⟩=some (.int .i64 0):=BAd.out.cell 8;have g8:wd.frozen? ⟨w.heap.size+1,8,none⟩=false:=BAd.out.free 8;have hw1:IntKind.i64.wrap (m.li-1)=m.li-1:=by rw [IntKind.wrap_i64];omega
    obtain ⟨MN,hMN⟩:∃ MN,MN=min (R2.n.log.length:Int) (m.li-1):=⟨_,rfl⟩;have HMin:Hid (∀ z,Calls Tryz.prog 55 #[.int .i64 (R2.n.log.length:Int),.int .i64 (m.li-1)] z fun e w'=>e=.returned (.int .i64 MN)/\w'=z):=fun z=>by rw [hMN];exact Z44 _ _ z
    rw [<-hMN] at HQ4;obtain ⟨w9,hw9⟩:∃ z,z=wd.setCell ⟨w.heap.size+1,8,none⟩ (.int .i64 MN):=⟨_,rfl⟩;have HA9:Hid (Blk w9 (w.heap.size+1) #[.int .i64 6,.int .i64 0,.int .i64 m.fr,.int .i64 R2.n.tm,.int .i64 m.li,.int .i64 0,.int .i64 0,.int .i64 0,.int .i64 MN,.slice none 0 0] 43):=by rw [hw9];exact BAd.out.set 8 _
    have HB9:Hid (Below B w w9):=by rw [hw9];exact HBd.out.setCell (p:=⟨w.heap.size+1,8,none⟩) (by show _<=w.heap.size+1;omega) _
    have HR9:Hid (Z4 w9 B b R2 X):=HRd.out.other BAd.out (HVoX.out) (fun k hk _=>by rw [hw9];exact Below.heap_setCell _ _ _ _ hk);have HS9:Hid _:=Js b R2 X ⟨6,0,m.fr,R2.n.tm,m.li,0,0,0,MN,[]⟩ none 0 w9 B HR9.out (Zd.nil _ _) (by have:=HXL.out;omega);have Hw9:Hid _:=hw9;have G2:Hid True:=trivial;rw [hv];clear hMN hv hw9 HQ3
    go_wp2_with (first
     |(go_at_call 55;refine (HMin.out _).mono ?_;rintro e w' ⟨rfl,hww⟩;have hww2:=hww.symm;subst hww2)
     |(have hBA:=G2;refine Z7 43 (.tmp 4) rfl ?_;clear hBA;rw [<-Hw9.out];refine Z3 rfl 43 (.tmp 4) rfl (w.heap.size+1) rfl HA9.out Tryz.underlying43 rfl Zy rfl ?_;clear G2)
     |(go_at_call 146;refine Calls.mono HS9.out ?_;rintro e wz ⟨v9,y9,rfl,hRz,hbz,-⟩;have HRz:Hid _:=hRz;have HBz:Hid (Below B w wz):=HB9.out.trans hbz;clear hRz hbz))
    (try simp only [Exit.inBlock,Exit.then])
    exact bodyPost_ret (results_none rfl _ _ _) rfl ⟨_,rfl,by rw [HQ4.out];exact HRz.out,HBz.out⟩
   have hvf:apB R2.n m=false:=by simpa using hv
   rw [hvf];obtain ⟨PT,hPT⟩:∃ PT,PT=Y0 R2.n.log m.li.toNat m.es:=⟨_,rfl⟩;have HQ4:Hid (RP=if PT<m.es.length/\m.li+(PT:Nat)+1<=R2.n.cm then R2.stale else Rn.send { R2 with n:={ R2.n with log:=if PT<m.es.length then R2.n.log.take (m.li.toNat+PT) ++ m.es.drop PT else R2.n.log,cm:=max R2.n.cm (min m.cm (m.li+m.es.length)) } } ⟨6,0,m.fr,R2.n.tm,m.li+m.es.length,0,0,1,0,[]⟩):=by rw [hPT];exact HQ3.out.trans (if_neg hv)
   have hlile:m.li.toNat<=R2.n.log.length:=by
    rcases Nat.lt_or_ge R2.n.log.length m.li.toNat with h | h
    ·exact absurd ((apB_iff _ _ hli0).2 (.inl h)) hv
    ·exact h
   have hP1:m.li.toNat+PT<=R2.n.log.length:=by rw [hPT];exact parts_le _ _ _ hlile
   have hP2:PT<=m.es.length:=by rw [hPT];exact parts_le2 _ _ _
   have HPt:Hid (∀ z,Below wd.heap.size wd z->Calls Tryz.prog 151 #[.agg (ndC R2.n X),.agg #[.int .i64 m.ki,.int .i64 m.fr,.int .i64 m.td,.int .i64 m.tm,.int .i64 m.li,.int .i64 m.lt,.int .i64 m.cm,.int .i64 m.ok,.int .i64 m.hi,.slice ea m.es.length ec]] z fun e w'=>e=.returned (.int .i64 (PT:Nat))/\Below z.heap.size z w'):=fun z hz=>by rw [hPT];exact l4parts_run HRd.out HB2.out m ea ec z hz (HEs.out _ HBd.out) hes hli0 hli1
   have qn:∀ u:BW wd,Sem.run Tryz.prog (loadVar 36 ⟨b,0,none⟩) u.w=.ok (.agg (ndC R2.n X)) u.w:=fun u=>Z0g (HRd.out.below u.h)
   have pn:∀ u:BW wd,Sem.run Tryz.prog (loadVar 43 ⟨w.heap.size,0,none⟩) u.w=.ok (.agg #[.int .i64 m.ki,.int .i64 m.fr,.int .i64 m.td,.int .i64 m.tm,.int .i64 m.li,.int .i64 m.lt,.int .i64 m.cm,.int .i64 m.ok,.int .i64 m.hi,.slice ea m.es.length ec]) u.w:=fun u=>Ja (BMd.out.below u.h (by omega)) 43 Tryz.underlying43 rfl (by rw [Zy];rfl)
   have NEd:Nonempty (BW wd):=⟨⟨wd,Below.refl _ _⟩⟩;clear HQ3 hv hvf hPT c12
   go_upto_region 18 with fail
   refine wp_region_quiet (C:=fun w'=>∃ u:BW wd,w'=u.w) (by kernel_rfl) (by kernel_rfl) ⟨⟨_,(Below.refl _ _).drew⟩,rfl⟩ ?_;rw [List.toList_toArray]
   repeat (first | (go_big_quiet_want;refine J1 (W:=wd) 36 (.tmp 122) rfl rfl qn ?_;go_big_quiet_on;simp only [Act.put,List.setIfInBounds_toArray,List.set_cons_zero,List.set_cons_succ]) | (go_big_quiet_want;refine J1 (W:=wd) 43 (.tmp 3) rfl rfl pn ?_;go_big_quiet_on;simp only [Act.put,List.setIfInBounds_toArray,List.set_cons_zero,List.set_cons_succ]) | go_big_quiet_step ((go_at_call 151;refine (HPt.out _ (BW.h _)).mono ?_;rintro e w9 ⟨rfl,hb9⟩;exact ⟨rfl,⟨⟨w9,(BW.h _).trans (hb9.mono (BW.h _).size)⟩,rfl⟩⟩)))
   refine wpQuiet_nil ?_;intro we hwwe;have hb_we:Below wd.heap.size wd we:=(by obtain ⟨u,rfl⟩:=hwwe;exact u.h);clear hwwe;have HRe:Hid (Z4 we B b R2 X):=HRd.out.below hb_we;have HBe:Hid (Below B w we):=HBd.out.trans (hb_we.mono (Nat.le_trans hBw (by omega)));have BMe:Hid (Blk we w.heap.size _ 43):=BMd.out.below hb_we (by omega);have BAe:Hid (Blk we (w.heap.size+1) _ 43):=BAd.out.below hb_we hzd;have HLe:Hid (Zd we B (.slice la R2.n.log.length lc) R2.n.log):=HLd.out.below hb_we;have hze:w.heap.size+1<we.heap.size:=BAe.out.lt;clear hb_we HRd HBd BMd BAd HLd hzd qn pn NEd HPt;have n9:we.cell? ⟨w.heap.size,9,none⟩=some (.slice ea m.es.length ec):=BMe.out.cell 9;obtain ⟨LG,hLG⟩:∃ LG,LG=if PT<m.es.length then R2.n.log.take (m.li.toNat+PT) ++ m.es.drop PT else R2.n.log:=⟨_,rfl⟩
   rw [<-hLG] at HQ4;have HLG:Hid _:=hLG;obtain ⟨Q,hQ⟩:∃ Q:Nat,(Q:Int)=m.li+PT:=⟨m.li.toNat+PT,by omega⟩;have HQe:Hid (m.li.toNat+PT=Q):=by unfold Hid;omega
   clear hLG
   go_upto_if 130 with fail
   go_cut [7,8,9] (fun _ _ _ wx=>∃ X5:RV,Z4 wx B b { R2 with n:={ R2.n with log:=LG } } X5/\X5.L.length<=900/\X5.vo=X.vo/\Below B w wx/\Blk wx w.heap.size #[.int .i64 m.ki,.int .i64 m.fr,.int .i64 m.td,.int .i64 m.tm,.int .i64 m.li,.int .i64 m.lt,.int .i64 m.cm,.int .i64 m.ok,.int .i64 m.hi,.slice ea m.es.length ec] 43/\Blk wx (w.heap.size+1) #[.int .i64 6,.int .i64 0,.int .i64 m.fr,.int .i64 R2.n.tm,.int .i64 m.li,.int .i64 0,.int .i64 0,.int .i64 0,.int .i64 0,.slice none 0 0] 43/\¬(PT<m.es.length/\m.li+(PT:Nat)+1<=R2.n.cm))
   case first=>
    by_cases hp:PT<m.es.length
    ·have HL2:Hid (LG=R2.n.log.take Q ++ m.es.drop PT):=by unfold Hid;rw [HLG.out,if_pos hp,HQe.out]
     have hpi:((PT:Int)<(m.es.length:Int)):=by omega
     have hw1:IntKind.i64.wrap (m.li+(PT:Int))=m.li+(PT:Int):=by rw [IntKind.wrap_i64];omega
     have hw2:IntKind.i64.wrap (m.li+(PT:Int)+1)=m.li+(PT:Int)+1:=by rw [IntKind.wrap_i64];omega
     have hw3:IntKind.i64.wrap (m.li+(PT:Int)+1-1)=(Q:Int):=by rw [IntKind.wrap_i64];omega
     have c8:we.cell? ⟨b,8,none⟩=some (.int .i64 R2.n.cm):=HRe.out.blk.cell 8;rw [show decide (PT<m.es.length)=true from decide_eq_true hp];by_cases hcm:m.li+(PT:Int)+1<=R2.n.cm
     ·have HQ5:Hid (RP=R2.stale):=HQ4.out.trans (if_pos ⟨hp,hcm⟩)
      have k19:we.cell? ⟨b,19,none⟩=some (.int .i64 R2.code):=HRe.out.blk.cell 19;have f19:we.frozen? ⟨b,19,none⟩=false:=HRe.out.blk.free 19;clear HQ4 hp
      go_wp2_with (fail)
      (try simp only [Exit.inBlock,Exit.then])
      refine bodyPost_ret (results_none rfl _ _ _) rfl ⟨X,rfl,?_,HBe.out.trans (HRe.out.setB 19 _)⟩;rw [HQ5.out];exact HRe.out.set 19 _ rfl rfl rfl rfl rfl rfl rfl rfl
     have HNc:Hid (¬(PT<m.es.length/\m.li+(PT:Nat)+1<=R2.n.cm)):=fun h=>hcm h.2
     have c12:we.cell? ⟨b,12,none⟩=some (.slice la R2.n.log.length lc):=by rw [<-HVl.out];exact HRe.out.blk.cell 12
     have hcap:=HLe.out.cap;have hQl:Q<=lc:=by omega
     have hQi:(Q:Int)<=(lc:Int):=by omega
     have HEt:Hid (Es we (.slice la (m.li+(PT:Int)).toNat lc) (R2.n.log.take Q)):=by unfold Hid;rw [show (m.li+(PT:Int)).toNat=Q by omega];exact (HLe.out.es (by unfold maxLen;omega)).take Q (by omega)
     have HLn:Hid ((R2.n.log.take Q).length=Q):=by unfold Hid;rw [List.length_take];omega
     have hQ9:Q<=4096:=by omega
     clear hcap
     go_upto_region 25 with (first
      |(go_at_call 102;refine (Z2p _ (R2.n.log.take Q) _ HEt.out (by rw [HLn.out];omega)).mono ?_;rintro e wf ⟨v8,rfl,ho8,hb8⟩;obtain ⟨b8,n8,d8,hv8⟩:∃ a n c,v8=.slice a n c:=(by obtain ⟨a,c,e⟩:=ho8.shape;exact ⟨a,_,c,e⟩);subst hv8;have HO8:Hid (Zd wf we.heap.size (.slice b8 n8 d8) (R2.n.log.take Q)):=ho8;have HB8:Hid _:=hb8;clear ho8 hb8))
     rename Ending.returned _=Ending.returned _=>hh
     cases hh;have HS:Hid (∀ k (h1:PT<=k) (hk:k<m.es.length),(m.es.take (k+1)).drop PT=(m.es.take k).drop PT ++ [m.es[k]]):=fun k h1 hk=>Z5l _ _ _ h1 hk
     have HS0:Hid ((m.es.take PT).drop PT = []):=by unfold Hid;rw [List.drop_eq_nil_iff,List.length_take];omega
     have HSn:Hid ((m.es.take m.es.length).drop PT=m.es.drop PT):=by unfold Hid;rw [List.take_length]
     have HEf:Hid (∀ e∈m.es,e.fits):=(HEs.out _ HBe.out).2.1;clear hw1 hw2 hw3 c8 c12 HEt
     go_loopw [8,9] (fun s8 s9 wr=>∃ k:Nat,PT<=k/\k<=m.es.length/\s9=.int .i64 (k:Int)/\Zd wr we.heap.size s8 (R2.n.log.take Q ++ (m.es.take k).drop PT)/\Below we.heap.size we wr) (fun _ s9 _=>m.es.length-(intOf s9).toNat)
     case atStart=>exact ⟨PT,Nat.le_refl _,by omega,rfl,by rw [HS0.out,List.append_nil];exact HO8.out,HB8.out⟩
     case round=>
      obtain ⟨k,hk1,hk2,rfl,hO,hB⟩:=hrel;have HB:Hid _:=hB;have hzr:=hB.size;have n9':wr.cell? ⟨w.heap.size,9,none⟩=some (.slice ea m.es.length ec):=(BMe.out.below hB (by omega)).cell 9;obtain ⟨a3,n3,c3,rfl⟩:=hO.sl3;have HO:Hid (Zd wr we.heap.size (.slice a3 n3 c3) (R2.n.log.take Q ++ (m.es.take k).drop PT)):=hO;have HEk:Hid (Es wr (.slice ea m.es.length ec) m.es):=HEs.out _ (HBe.out.trans (hB.mono (Nat.le_trans hBw (by omega))));clear hO hB;by_cases hlt:k<m.es.length
      ·have hki:(k:Int)<(m.es.length:Int):=by omega
       obtain ⟨eb,eo,rfl,hent⟩:=es_cells HEk.out k hlt;have hfk:=HEf.out m.es[k] (List.getElem_mem hlt);have HN:=HS.out k hk1 hlt;have HN2:Hid _:=HN;obtain ⟨c0,c1,c2,c3',c4,c5,c6⟩:=hent;have hgl:=Yd c0;have hlen:(R2.n.log.take Q ++ (m.es.take k).drop PT).length<=1000000:=by rw [List.length_append,HLn.out,List.length_drop,List.length_take];omega
       clear HN HS;generalize m.es[k]=e at *;have HGw:Hid (∀(o:Obj) v' w',Jy (wr.alloc o) (.slice a3 n3 c3) w' v'->Below we.heap.size we w'):=fun o v' w' hg=>(HB.out.alloc hzr _).trans (growE hg (HO.out.below ((Below.refl _ _).alloc (Nat.le_refl _) _)) (by simp;omega))
       go_upto_region 27 with fail
       go_wp2_with (first
        |(at_builtin;refine Z4q rfl (.tmp 162) (.tmp 168) rfl e hfk (HO.out.below ((Below.refl _ _).alloc (Nat.le_refl _) _)) rfl wr.heap.size 1 (Z5r wr e) rfl hlen (by simp;omega) ?_;intro v' w' ho' hg;have HO':Hid (Zd w' we.heap.size v' (R2.n.log.take Q ++ (m.es.take k).drop PT ++ [e])):=ho';have HB':Hid (Below we.heap.size we w'):=HGw.out _ _ _ hg;clear ho' hg))
       go_roundw
       case rel=>
        exact ⟨k+1,by omega,by omega,by go_num,by rw [HN2.out,<-List.append_assoc];exact HO'.out,HB'.out⟩
       case measure=>simp [intOf];omega
      ·obtain rfl:k=m.es.length:=by omega
       have hki:¬(m.es.length:Int)<(m.es.length:Int):=by omega
       have HF:Hid _:=HRe.out.logNew HB.out HO.out;have q12:wr.cell? ⟨b,12,none⟩=some X.vl:=(HRe.out.below HB.out).blk.cell 12;have f12:wr.frozen? ⟨b,12,none⟩=false:=(HRe.out.below HB.out).blk.free 12
       go_wp2_with fail
       go_meet;exact ⟨{ X with vl:=.slice a3 n3 c3 },by have h9:=HF.out.1;rw [HSn.out] at h9;rw [HL2.out];exact h9,HXL.out,rfl,HBe.out.trans HF.out.2.1,BMe.out.grown HF.out.2.2 (by omega),BAe.out.grown HF.out.2.2 (by omega),HNc.out⟩
    ·have HL2:Hid (LG=R2.n.log):=HLG.out.trans (if_neg hp)
     have hpi:¬((PT:Int)<(m.es.length:Int)):=by omega
     have HNc:Hid (¬(PT<m.es.length/\m.li+(PT:Nat)+1<=R2.n.cm)):=fun h=>hp h.1
     have H9:Hid (Z4 we B b { R2 with n:={ R2.n with log:=LG } } X):=by unfold Hid;rw [HL2.out];exact HRe.out
     clear hp
     go_wp2_with fail
     go_meet;exact ⟨X,H9.out,HXL.out,rfl,HBe.out,BMe.out,BAe.out,HNc.out⟩
   case rest=>
    obtain ⟨X5,hR5,hX5,hV5,hB5,hM5,hA5,hN5⟩:=hcut;obtain ⟨wf,hwf⟩:∃ z,z=wc:=⟨_,rfl⟩;rw [<-hwf] at hR5 hB5 hM5 hA5;subst hwf;obtain ⟨R5,hR5e⟩:∃ R5:Rn,R5={ R2 with n:={ R2.n with log:=LG } }:=⟨_,rfl⟩;have HQ5:Hid (RP=Rn.send { R5 with n:={ R5.n with cm:=max R5.n.cm (min m.cm (m.li+m.es.length)) } } ⟨6,0,m.fr,R5.n.tm,m.li+m.es.length,0,0,1,0,[]⟩):=by rw [hR5e];exact HQ4.out.trans (if_neg hN5)
    have htm:R5.n.tm=R2.n.tm:=by rw [hR5e]
    rw [<-hR5e] at hR5;have BA5:Hid (Blk wf (w.heap.size+1) #[.int .i64 6,.int .i64 0,.int .i64 m.fr,.int .i64 R5.n.tm,.int .i64 m.li,.int .i64 0,.int .i64 0,.int .i64 0,.int .i64 0,.slice none 0 0] 43):=by unfold Hid;rw [htm];exact hA5
    have HR5:Hid _:=hR5;have HB5:Hid _:=hB5;have BM5:Hid (Blk wf w.heap.size _ 43):=hM5;have HX5:Hid (X5.L.length<=900):=hX5;have HV5:Hid (∀ g,X5.vo.ownBlock=some g->g≠w.heap.size+1):=by unfold Hid;rw [hV5];exact HVoX.out
    clear hR5 hX5 hV5 hB5 hM5 hA5 hN5 hR5e htm HQ4 HLG HQe hQ hP1 hP2 hlile HRe HBe BMe BAe HLe n9 HXL HVoX HVl;obtain ⟨S5,hS5⟩:∃ S5,S5=m.li+(m.es.length:Int):=⟨_,rfl⟩;obtain ⟨MN,hMN⟩:∃ MN,MN=min m.cm S5:=⟨_,rfl⟩;obtain ⟨MX,hMX⟩:∃ MX,MX=max R5.n.cm MN:=⟨_,rfl⟩;rw [<-hS5,<-hMN,<-hMX] at HQ5;have hw1:IntKind.i64.wrap (m.li+(m.es.length:Int))=S5:=by rw [IntKind.wrap_i64];omega
    have HMin:Hid (∀ z,Calls Tryz.prog 55 #[.int .i64 m.cm,.int .i64 S5] z fun e w'=>e=.returned (.int .i64 MN)/\w'=z):=fun z=>by rw [hMN];exact Z44 _ _ z
    have HMax:Hid (∀ z,Calls Tryz.prog 94 #[.int .i64 R5.n.cm,.int .i64 MN] z fun e w'=>e=.returned (.int .i64 MX)/\w'=z):=fun z=>by rw [hMX];exact Z2i _ _ z
    have hzf:w.heap.size+1<wf.heap.size:=BA5.out.lt;have q8:∀ u:BW wf,u.w.cell? ⟨b,8,none⟩=some (.int .i64 R5.n.cm):=fun u=>(HR5.out.below u.h).blk.cell 8
    have p6:∀ u:BW wf,u.w.cell? ⟨w.heap.size,6,none⟩=some (.int .i64 m.cm):=fun u=>(BM5.out.below u.h (by omega)).cell 6
    have p9:∀ u:BW wf,u.w.cell? ⟨w.heap.size,9,none⟩=some (.slice ea m.es.length ec):=fun u=>(BM5.out.below u.h (by omega)).cell 9
    have NEf:Nonempty (BW wf):=⟨⟨wf,Below.refl _ _⟩⟩;clear hS5 hMN hMX
    go_upto_region 29 with fail
    refine Zn (C:=fun w'=>∃ u:BW wf,w'=u.w) _ (by kernel_rfl) rfl (by kernel_rfl) ⟨⟨_,(Below.refl _ _).drew⟩,rfl⟩ ?_;simp only [List.dropLast_cons_cons,List.dropLast_singleton]
    repeat (first | go_big_quiet_step ((first | (go_at_call 55;refine (HMin.out _).mono ?_;rintro e w9 ⟨rfl,rfl⟩;exact ⟨rfl,⟨_,rfl⟩⟩) | (go_at_call 94;refine (HMax.out _).mono ?_;rintro e w9 ⟨rfl,rfl⟩;exact ⟨rfl,⟨_,rfl⟩⟩))))
    refine wpQuiet_nil ?_;intro wg hwwg;have hb_wg:Below wf.heap.size wf wg:=(by obtain ⟨u,rfl⟩:=hwwg;exact u.h);clear hwwg;have HRg:Hid (Z4 wg B b R5 X5):=HR5.out.below hb_wg;have HBg:Hid (Below B w wg):=HB5.out.trans (hb_wg.mono (Nat.le_trans hBw (by omega)));have BMg:Hid (Blk wg w.heap.size _ 43):=BM5.out.below hb_wg (by omega);have BAg:Hid (Blk wg (w.heap.size+1) _ 43):=BA5.out.below hb_wg hzf;refine Xm (.tmp 192) (.tmp 189) rfl rfl rfl (HRg.out.blk.cell 8) (HRg.out.blk.free 8) rfl ?_;obtain ⟨wh,hwh⟩:∃ z,z=wg.setCell ⟨b,8,none⟩ (.int .i64 MX):=⟨_,rfl⟩;have hgh:wg.grownBy wh (some b):=by rw [hwh];exact Rd.frame 8 _
    have HRh:Hid (Z4 wh B b { R5 with n:={ R5.n with cm:=MX } } X5):=by rw [hwh];exact HRg.out.set 8 _ rfl rfl rfl rfl rfl rfl rfl rfl
    have HBh:Hid (Below B w wh):=by rw [hwh];exact HBg.out.setCell (p:=⟨b,8,none⟩) HRg.out.lo _
    have BMh:Hid (Blk wh w.heap.size _ 43):=BMg.out.grown hgh (by omega);have BAh:Hid (Blk wh (w.heap.size+1) _ 43):=BAg.out.grown hgh (by omega);rw [<-hwh];clear hwh hgh HRg HBg BMg BAg HR5 HB5 BM5 BA5 q8 p6 p9 NEf hb_wg hzf HMin HMax;have a7:wh.cell? ⟨w.heap.size+1,7,none⟩=some (.int .i64 0):=BAh.out.cell 7;have g7:wh.frozen? ⟨w.heap.size+1,7,none⟩=false:=BAh.out.free 7;have a4:wh.cell? ⟨w.heap.size+1,4,none⟩=some (.int .i64 m.li):=BAh.out.cell 4;have g4:wh.frozen? ⟨w.heap.size+1,4,none⟩=false:=BAh.out.free 4;have n9:wh.cell? ⟨w.heap.size,9,none⟩=some (.slice ea m.es.length ec):=BMh.out.cell 9;obtain ⟨wi,hwi⟩:∃ z,z=(wh.setCell ⟨w.heap.size+1,7,none⟩ (.int .i64 1)).setCell ⟨w.heap.size+1,4,none⟩ (.int .i64 S5):=⟨_,rfl⟩;have HAi:Hid (Blk wi (w.heap.size+1) #[.int .i64 6,.int .i64 0,.int .i64 m.fr,.int .i64 R5.n.tm,.int .i64 S5,.int .i64 0,.int .i64 0,.int .i64 1,.int .i64 0,.slice none 0 0] 43):=by rw [hwi];exact (BAh.out.set 7 _).set 4 _
    have HBi:Hid (Below B w wi):=by rw [hwi];exact (HBh.out.setCell (p:=⟨w.heap.size+1,7,none⟩) (by show _<=w.heap.size+1;omega) _).setCell (p:=⟨w.heap.size+1,4,none⟩) (by show _<=w.heap.size+1;omega) _
    have HRi:Hid (Z4 wi B b { R5 with n:={ R5.n with cm:=MX } } X5):=HRh.out.other BAh.out HV5.out (fun k hk _=>by rw [hwi];exact (Below.heap_setCell _ _ _ _ hk).trans (Below.heap_setCell _ _ _ _ hk));have HSi:Hid _:=Js b _ X5 ⟨6,0,m.fr,R5.n.tm,S5,0,0,1,0,[]⟩ none 0 wi B HRi.out (Zd.nil _ _) (by have:=HX5.out;omega);have Hwi:Hid _:=hwi;have G2:Hid True:=trivial;clear hwi
    go_wp2_with (first
     |(have hBA:=G2;refine Z7 43 (.tmp 4) rfl ?_;clear hBA;rw [<-Hwi.out];refine Z3 rfl 43 (.tmp 4) rfl (w.heap.size+1) rfl HAi.out Tryz.underlying43 rfl Zy rfl ?_;clear G2)
     |(go_at_call 146;refine Calls.mono HSi.out ?_;rintro e wz ⟨v9,y9,rfl,hRz,hbz,-⟩;have HRz:Hid _:=hRz;have HBz:Hid (Below B w wz):=HBi.out.trans hbz;clear hRz hbz))
    (try simp only [Exit.inBlock,Exit.then])
    exact bodyPost_end (results_none rfl _ _ _) rfl ⟨_,rfl,by rw [HQ5.out];exact HRz.out,HBz.out⟩
end Go.Proofs.YtmmpoppgabadmaaGreat
