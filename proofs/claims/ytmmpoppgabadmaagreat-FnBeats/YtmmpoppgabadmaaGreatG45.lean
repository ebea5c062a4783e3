import Derived.Test.YtmmpoppgabadmaaGreatG42
import Derived.Test.YtmmpoppgabadmaaGreatG43
import Derived.Test.YtmmpoppgabadmaaGreatG40
import Derived.Test.YtmmpoppgabadmaaGreatG44
set_option linter.unusedVariables false
set_option linter.unusedSimpArgs false
set_option maxRecDepth 100000
set_option maxHeartbeats 16000000
namespace Go.Proofs.YtmmpoppgabadmaaGreat
open Go.RowKit Go.Maps
end Go.Proofs.YtmmpoppgabadmaaGreat
namespace Go.Proofs.YtmmpoppgabadmaaGreat
open Go.RowKit Go.Maps
end Go.Proofs.YtmmpoppgabadmaaGreat
namespace Go.Proofs.YtmmpoppgabadmaaGreat
open Go.RowKit Go.Maps
def Rn.begin (r:Rn)(dr:Int):Rn:=⟨r.n,[],r.code,0,dr⟩
def CV.begin (x:CV)(k:Int):CV:={ x with vo:=.slice none 0 0,L:=[],kp:=k }
theorem Zj.beginAt {w w':World}{B b:Nat}{r:Rn}{x:CV}{dr k:Int}(h:Zj w B b r x)(hb:Blk w' b (crC (r.begin dr) (x.begin k)) 80)(hk:∀ j,j≠b->j<w.heap.size->w'.heap[j]? = w.heap[j]?):Zj w' B b (r.begin dr) (x.begin k):=by
 obtain ⟨f1,f2,f3,f4,f5⟩:=h.bf;refine ⟨hb,h.lo,h.log.block fun j e=>hk j (f4 j e).1 (World.ownsRow.lt h.log.2 j e).2,h.gm.keep (hk _ f1 h.gm.lt),h.gml,h.pm.keep (hk _ f2 h.pm.lt),h.pml,h.gp,fun y q e=>⟨(h.pf y q e).1.keep (hk q (f3 y q e).1 (h.pf y q e).1.lt),(h.pf y q e).2⟩,h.pi,h.pk,Zg.nil _ _ _ _ _,rfl,?_,?_,h.ci⟩
 ·intro p hp;cases hp
 ·exact List.pairwise_singleton _ _
def Rn.step (r:Rn)(ki:Int)(m:Mg)(cl sq op:Int)(k v o:ByteArray):Rn:=
 if ki=1 then r.tick else if ki=2 then r.message (decide (msB m≠0)) m else if ki=3 then r.propose (decide (cmdF cl sq op k.size v.size o.size≠0∨op=0)) cl sq op k v o else { r with code:=8 }
end Go.Proofs.YtmmpoppgabadmaaGreat
namespace Go.Proofs.YtmmpoppgabadmaaGreat
open Go.RowKit Go.Maps
theorem step_tick (b:Nat)(r:Rn)(x:CV)(ki dr:Int)(m:Mg)(cl sq op:Int)(k v o:ByteArray)(ea:Option Addr)(ec:Nat)(w:World)(B:Nat)(h:Zj w B b r x)(hc:r.code=0)(hb:NdB r.n)(hd : -(2^63)<=dr)(hD:dr<2^63)(ht0:0<=r.n.tm)(ht1:r.n.tm<=1073741824)(he:Es w (.slice ea m.es.length ec) m.es)(hlo:∀ k,(Value.slice ea m.es.length ec).ownBlock=some k->k<B)(hec:m.es.length<=ec)(hel:m.es.length<=1048576)(hLm:r.n.ro=3->LdM r.n r.n.sz.toNat)(hLt:r.n.ro=3->LdT r.n r.n.sz.toNat)(hcm0:0<=r.n.cm)(hLR:LogR r.n)(hk:k.size<=maxLen)(hv:v.size<=maxLen)(ho:o.size<=maxLen)(hki:Hid (ki=1)) :
  Calls Tryz.prog 38 #[.pointer (some ⟨b,0,none⟩),.agg #[.int .i64 ki,.int .i64 dr,.int .i64 m.ki,.int .i64 m.fr,.int .i64 m.td,.int .i64 m.tm,.int .i64 m.li,.int .i64 m.lt,.int .i64 m.cm,.int .i64 m.ok,.int .i64 m.hi,.slice ea m.es.length ec,.int .i64 cl,.int .i64 sq,.int .i64 op,.string k,.string v,.string o]] w fun e w'=>e=.returned (.int .i64 ((r.begin dr).step ki m cl sq op k v o).code)/\∃ x',Zj w' B b ((r.begin dr).step ki m cl sq op k v o) x'/\Tch b w x w' x':=by
 have hBw:B<=w.heap.size:=Nat.le_trans h.lo (Nat.le_of_lt h.lt);have HEe:Hid (∀ z,Below B w z->Es z (.slice ea m.es.length ec) m.es):=fun z hz=>he.elder hlo hz
 have HLo:Hid (∀ k,(Value.slice ea m.es.length ec).ownBlock=some k->k<B):=hlo;obtain ⟨EN,hEN⟩:∃ EN,EN=m.es.length:=⟨_,rfl⟩;have HEN:Hid (EN=m.es.length):=hEN;rw [<-hEN] at hec hel ⊢;obtain ⟨la,lc,hvl⟩:=h.log.shape;obtain ⟨LN,hLN⟩:∃ LN,LN=r.n.log.length:=⟨_,rfl⟩;rw [<-hLN] at hvl;obtain ⟨W,hW⟩:∃ W,W=w.alloc (.cells #[.int .i64 ki,.int .i64 dr,.int .i64 m.ki,.int .i64 m.fr,.int .i64 m.td,.int .i64 m.tm,.int .i64 m.li,.int .i64 m.lt,.int .i64 m.cm,.int .i64 m.ok,.int .i64 m.hi,.slice ea EN ec,.int .i64 cl,.int .i64 sq,.int .i64 op,.string k,.string v,.string o] 46):=⟨_,rfl⟩;have HBW:Hid (Below w.heap.size w W):=by unfold Hid;rw [hW];exact Below.alloc0 _
 have HIW:Hid (Blk W w.heap.size #[.int .i64 ki,.int .i64 dr,.int .i64 m.ki,.int .i64 m.fr,.int .i64 m.td,.int .i64 m.tm,.int .i64 m.li,.int .i64 m.lt,.int .i64 m.cm,.int .i64 m.ok,.int .i64 m.hi,.slice ea EN ec,.int .i64 cl,.int .i64 sq,.int .i64 op,.string k,.string v,.string o] 46):=by unfold Hid;rw [hW];exact Blk.new _ _ _
 have HCW:Hid (Zj W B b r x):=h.below HBW.out;have HnW:Hid (¬ x.has b w.heap.size):=h.hasnt_new (Nat.le_refl _);have m1:W.cell? ⟨w.heap.size,1,none⟩=some (.int .i64 dr):=HIW.out.cell 1;have d12:W.cell? ⟨b,12,none⟩=some (.slice la LN lc):=by rw [<-hvl];exact HCW.out.blk.cell 12
 have d20:W.cell? ⟨b,20,none⟩=some (.int .i64 r.draw):=HCW.out.blk.cell 20;have d21:W.cell? ⟨b,21,none⟩=some (.int .i64 r.drew):=HCW.out.blk.cell 21;have d22:W.cell? ⟨b,22,none⟩=some (.int .i64 x.kp):=HCW.out.blk.cell 22;obtain ⟨oa,oc,hvo⟩:=h.out.shape;obtain ⟨ON,hON⟩:∃ ON,ON=x.L.length:=⟨_,rfl⟩;rw [<-hON] at hvo;have d23:W.cell? ⟨b,23,none⟩=some (.slice oa ON oc):=by rw [<-hvo];exact HCW.out.blk.cell 23
 have df:∀ j,W.frozen? ⟨b,j,none⟩=false:=fun j=>HCW.out.blk.free j
 have hblt:=h.lt;have hne:¬ w.heap.size=b:=by omega
 have hne2:¬ b=w.heap.size:=by omega
 obtain ⟨R1,hR1⟩:∃ R1,R1=r.begin dr:=⟨_,rfl⟩;obtain ⟨X1,hX1⟩:∃ X1,X1=x.begin (LN:Int):=⟨_,rfl⟩
 have HF:Hid (∀ z,Below W.heap.size W z->Zj ((((z.setCell ⟨b,20,none⟩ (.int .i64 dr)).setCell ⟨b,21,none⟩ (.int .i64 0)).setCell ⟨b,22,none⟩ (.int .i64 (LN:Int))).setCell ⟨b,23,none⟩ (.slice none 0 0)) B b R1 X1/\Tch b W x ((((z.setCell ⟨b,20,none⟩ (.int .i64 dr)).setCell ⟨b,21,none⟩ (.int .i64 0)).setCell ⟨b,22,none⟩ (.int .i64 (LN:Int))).setCell ⟨b,23,none⟩ (.slice none 0 0)) X1/\Blk ((((z.setCell ⟨b,20,none⟩ (.int .i64 dr)).setCell ⟨b,21,none⟩ (.int .i64 0)).setCell ⟨b,22,none⟩ (.int .i64 (LN:Int))).setCell ⟨b,23,none⟩ (.slice none 0 0)) w.heap.size #[.int .i64 ki,.int .i64 dr,.int .i64 m.ki,.int .i64 m.fr,.int .i64 m.td,.int .i64 m.tm,.int .i64 m.li,.int .i64 m.lt,.int .i64 m.cm,.int .i64 m.ok,.int .i64 m.hi,.slice ea EN ec,.int .i64 cl,.int .i64 sq,.int .i64 op,.string k,.string v,.string o] 46):=fun z hz=>by
  rw [hR1,hX1];have hC:=HCW.out.below hz;refine ⟨hC.beginAt ((((hC.blk.set 20 _).set 21 _).set 22 _).set 23 _) (Xq (b:=b) (Xq (b:=b) (Xq (b:=b) (Xq (b:=b) (Z2e z b) 20 _) 21 _) 22 _) 23 _),?_,((((HIW.out.below hz HIW.out.lt).set_other _ hne).set_other _ hne).set_other _ hne).set_other _ hne⟩;have hT:=((((Tch.below0 b x hz).trans (Tch.set b z x 20 (.int .i64 dr))).trans (Tch.set b _ x 21 (.int .i64 0))).trans (Tch.set b _ x 22 (.int .i64 (LN:Int)))).trans (Tch.set b _ x 23 (.slice none 0 0));refine ⟨hT.os,hT.tape,hT.output,hT.size,hT.block,fun j hj=>.inl ?_⟩;rcases hj with e | e | e | e | e | e
  ·exact .inl e
  ·exact .inr (.inl e)
  ·exact .inr (.inr (.inl e))
  ·exact .inr (.inr (.inr (.inl e)))
  ·exact .inr (.inr (.inr (.inr (.inl e))))
  ·cases e
 have HR1e:Hid (R1.n=r.n/\R1.code=0/\R1.draw=dr/\X1.L = []):=by unfold Hid;rw [hR1,hX1];exact ⟨rfl,hc,rfl,rfl⟩
 rw [<-hR1];obtain ⟨RP,hRP⟩:∃ RP,RP=R1.step ki m cl sq op k v o:=⟨_,rfl⟩;have HRP:Hid (RP=if ki=1 then R1.tick else if ki=2 then R1.message (decide (msB m≠0)) m else if ki=3 then R1.propose (decide (cmdF cl sq op k.size v.size o.size≠0∨op=0)) cl sq op k v o else { R1 with code:=8 }):=hRP;rw [<-hRP];have hX0:X1.L.length<=900:=by rw [HR1e.out.2.2.2];simp
 have HTk:Hid (∀ z,Zj z B b R1 X1->Calls Tryz.prog 83 #[.pointer (some ⟨b,0,none⟩)] z fun e w'=>e=.returned (.int .i64 R1.tick.code)/\∃ x',Zj w' B b R1.tick x'/\Tch b z X1 w' x'):=fun z hz=>tick_any b R1 X1 z B hz HR1e.out.2.1 (by rw [HR1e.out.1];exact ht0) (by rw [HR1e.out.1];exact ht1) (by rw [HR1e.out.2.2.1];exact hd) (by rw [HR1e.out.2.2.1];exact hD) (by rw [HR1e.out.1];exact hb.nw0) (by rw [HR1e.out.1];exact hb.nw1) (by rw [HR1e.out.1];exact hLt) (by rw [HR1e.out.1];exact hb.ln) hX0
 have HBl:Hid (∀ z x',Tch b W x z x'->Below B w z):=fun z x' ht=>(HBW.out.mono hBw).trans (HCW.out.below_of ht)
 clear h hvl hvo he hlo hEN hLN hON hR1 hX1 hRP hLm hLt;go_enter Tryz.func38,Tryz.ntmps38
 go_upto_region 1 with fail
 rw [<-hW];clear hW
 go_cut [] (fun z=>Zj z B b R1 X1/\Tch b W x z X1/\Blk z w.heap.size #[.int .i64 ki,.int .i64 dr,.int .i64 m.ki,.int .i64 m.fr,.int .i64 m.td,.int .i64 m.tm,.int .i64 m.li,.int .i64 m.lt,.int .i64 m.cm,.int .i64 m.ok,.int .i64 m.hi,.slice ea EN ec,.int .i64 cl,.int .i64 sq,.int .i64 op,.string k,.string v,.string o] 46)
 case first=>
  go_region
  all_goals go_wp2_with fail
  all_goals (
   go_meet
   first
    | exact HF.out _ (Below.refl _ _)
    | exact HF.out _ ((Below.refl _ _).drew))
 case rest=>
  obtain ⟨hC,hT,hI⟩:=hcut;obtain ⟨w2,hw2⟩:∃ z,z=wc:=⟨_,rfl⟩;rw [<-hw2] at hC hT hI;subst hw2;have HC2:Hid _:=hC;have HT2:Hid _:=hT;have HI2:Hid (Blk w2 w.heap.size _ 46):=hI;have n0:w2.cell? ⟨w.heap.size,0,none⟩=some (.int .i64 ki):=hI.cell 0;have HBw2:Hid (Below B w w2):=HBl.out w2 X1 hT;clear hC hT hI m1 d12 d20 d21 d22 d23 df;have G1:Hid True:=trivial;by_cases h1:ki=1
  ·have HR:Hid (RP=R1.tick):=HRP.out.trans (if_pos h1)
   have HT9:Hid _:=HTk.out w2 HC2.out;rw [<-HR.out] at HT9;have hkb:(ki == 1)=true:=by simpa using h1
   clear HRP h1 HR
   go_wp2_with (first
    |(go_at_call 83;refine Calls.mono HT9.out ?_;rintro e w7 ⟨rfl,x7,h7,t7⟩;have H7:Hid _:=h7;have T7:Hid _:=Tch.head HBW.out (HT2.out.trans t7);clear h7 t7))
   go_ret;exact ⟨rfl,_,H7.out,T7.out⟩
  exact absurd hki.out h1
end Go.Proofs.YtmmpoppgabadmaaGreat
namespace Go.Proofs.YtmmpoppgabadmaaGreat
open Go.RowKit
theorem dnLd_k (l:List Int)(h:DnH)(d:DnS)(hs:h.sz<=7):(Z0a l h d).k<=d.k+300:=by
 unfold Z0a;split
 ·have hl:=Z1z l h (Yy d.n.tm d.n.log (Z4 l d.k 4)).length d.n.nw ⟨d.n.nx,d.n.mt,d.n.se,d.n.st,d.k+1+1⟩ h.sz
  refine Nat.le_trans hl.2.2.2.2 ?_;dsimp only;omega
 ·omega
theorem dnD_k (l:List Int)(k n:Nat)(hn:n<=200):(dnD l k n).k<=k+5000:=by
 have h1:=stD_k l k n;obtain ⟨z1,z2,_⟩:=dnH_le l (stD l k n).2.2.2;rw [show dnD l k n=Z0a l (dnH l (stD l k n).2.2.2) (J1 l (dnH l (stD l k n).2.2.2) (Jn l (dnH l (stD l k n).2.2.2) (stD l k n).1 (Jd l k n))) from rfl];have h2:=dnLd_k l (dnH l (stD l k n).2.2.2) (J1 l (dnH l (stD l k n).2.2.2) (Jn l (dnH l (stD l k n).2.2.2) (stD l k n).1 (Jd l k n))) z2;have h3:=(dnGr_n l (dnH l (stD l k n).2.2.2) (Jn l (dnH l (stD l k n).2.2.2) (stD l k n).1 (Jd l k n))).2.2.2.2.2.2.2;have h4:=(dnRo_n l (dnH l (stD l k n).2.2.2) (stD l k n).1 (Jd l k n)).2.2.2.2.2.2.2.2
 have h5:(Jd l k n).k<=(dn0 l k n).k+50:=by
  unfold Jd;have a1:=Xc ((Jo l (dnH l (stD l k n).2.2.2).el (Ja l (dnH l (stD l k n).2.2.2).el (J8 l (dn0 l k n)))).n.log.length+1);have a2:=Xc (min (Ja l (dnH l (stD l k n).2.2.2).el (J8 l (dn0 l k n))).n.nw.toNat (2*(dnH l (stD l k n).2.2.2).el)+1);have a3:=(dnDl_n l (dnH l (stD l k n).2.2.2).el (J8 l (dn0 l k n))).2.2.2.2.2.2.2.2;have a4:(J8 l (dn0 l k n)).k<=(dn0 l k n).k+3:=by unfold J8;split <;> (dsimp only;omega)
  show (Jo l (dnH l (stD l k n).2.2.2).el (Ja l (dnH l (stD l k n).2.2.2).el (J8 l (dn0 l k n)))).k+_<=_;have a5:(Jo l (dnH l (stD l k n).2.2.2).el (Ja l (dnH l (stD l k n).2.2.2).el (J8 l (dn0 l k n)))).k=(Ja l (dnH l (stD l k n).2.2.2).el (J8 l (dn0 l k n))).k+Zn (min (Ja l (dnH l (stD l k n).2.2.2).el (J8 l (dn0 l k n))).n.nw.toNat (2*(dnH l (stD l k n).2.2.2).el)+1):=rfl;omega
 have h6:(dn0 l k n).k<=(stD l k n).2.2.2+30:=by
  have a1:=Xc (dnH l (stD l k n).2.2.2).el;have a2:(dnH l (stD l k n).2.2.2).k=(stD l k n).2.2.2+1+1+1+1+1:=rfl;show (dnH l (stD l k n).2.2.2).k+Zn (dnH l (stD l k n).2.2.2).el+1<=_;omega
 omega
structure LdS (W:World) (g:Nat) (v:Value) (l:List Int) (b4:Nat) (wr:World) (k:Nat) (n:Nd) (x:RV):Prop where
 src:Src wr g v l k
 grown:W.grownBy wr (some g)
 nd:NdS wr W.heap.size b4 n x
 lo:W.heap.size<=b4
 ok:Yo n=0
def good (n:Nd):Prop:=n.ro=3/\n.nw<=100000
theorem setRow_grown {W wr:World}{g b:Nat}{C:Array Value}{t:TypeId}(h:W.grownBy wr (some g))(hb:Blk wr b C t)(hlo:W.heap.size<=b)(C':Array Value):W.grownBy (wr.setRow b C') (some g):=
 ⟨h.os,h.tape,h.output,by rw [Z23];exact h.size,fun q hq hne=>(setRow_other _ _ _ _ (by omega)).trans (h.block q hq hne)⟩
theorem LdS.next {W w w2:World}{g b4 k k2:Nat}{v:Value}{l:List Int}{n n2:Nd}{x x2:RV}(h:LdS W g v l b4 w k n x)(ho:NdO w2 w.heap.size n2 x2)(hs:Src w2 g v l k2)(hg:w.grownBy w2 (some g))(hgW:g<W.heap.size)(hok:Yo n2=0):LdS W g v l b4 (w2.setRow b4 (ndC n2 x2)) k2 n2 x2:=by
 have hlo:=h.lo;have hB2:Blk w2 b4 (ndC n x) 36:=h.nd.blk.keep (hg.block b4 h.nd.blk.lt (fun e=>by injection e with e;omega));have hG:W.grownBy w2 (some g):=World.grownBy.trans' h.grown hg;refine ⟨?_,setRow_grown hG hB2 hlo _,NdS.row hB2 rfl (ho.le h.grown.size),hlo,hok⟩;exact hs.row hB2 (by omega) h.nd.own.one.2 _
theorem dlRound {W:World}{g b2 b4 k:Nat}{va:Option Addr}{vc:Nat}{l:List Int}{n:Nd}{x:RV}{q:Nat}(hq:q<40)(hL:l.length<=1048576)(hlm:l.length<=maxLen)(hk:k<=300000000)(hb0:¬ good n)(hgW:g<W.heap.size){Q:Exit->Act->World->Prop}{K:Act->World->Prop}{a:Act}{w:World}(hF:SzD a 53)(h0:a.eval (.tmp 0)=.slice va l.length vc)(h2:a.eval (.tmp 2)=.pointer (some ⟨b2,0,none⟩))(h3:a.eval (.tmp 3)=.pointer (some ⟨g,0,none⟩))(h4:a.eval (.tmp 4)=.pointer (some ⟨b4,0,none⟩))(h5:a.eval (.tmp 5)=.int .i64 (q:Nat))(hS:LdS W g (.slice va l.length vc) l b4 w k n x)(hP:∀ a' w' k' n' x',SzD a' 53->a'.eval (.tmp 0)=.slice va l.length vc->a'.eval (.tmp 2)=.pointer (some ⟨b2,0,none⟩)->a'.eval (.tmp 3)=.pointer (some ⟨g,0,none⟩)->a'.eval (.tmp 4)=.pointer (some ⟨b4,0,none⟩)->a'.eval (.tmp 5)=.int .i64 ((q:Int)+1)->LdS W g (.slice va l.length vc) l b4 w' k' n' x'->k'<=k+5000->K a' w'):(Zy (Zf (Z1 1 (Z2 3 (Z9 Tryz.f24))))).wp Tryz.prog (Exit.then K Q) a w:=by
 obtain ⟨t,rfl⟩:=hF.opened;clear hF;rw [show lst t 0 53 = [t 0,t 1,t 2,t 3,t 4,t 5,t 6,t 7,t 8,t 9,t 10,t 11,t 12,t 13,t 14,t 15,t 16,t 17,t 18,t 19,t 20,t 21,t 22,t 23,t 24,t 25,t 26,t 27,t 28,t 29,t 30,t 31,t 32,t 33,t 34,t 35,t 36,t 37,t 38,t 39,t 40,t 41,t 42,t 43,t 44,t 45,t 46,t 47,t 48,t 49,t 50,t 51,t 52] from rfl];rw [show t 0=.slice va l.length vc from h0];rw [show t 2=.pointer (some ⟨b2,0,none⟩) from h2];rw [show t 3=.pointer (some ⟨g,0,none⟩) from h3];rw [show t 4=.pointer (some ⟨b4,0,none⟩) from h4];rw [show t 5=.int .i64 (q:Nat) from h5];clear h0 h2 h3 h4 h5;have c6:w.cell? ⟨b4,6,none⟩=some (.int .i64 n.ro):=hS.nd.blk.cell 6;have c9:w.cell? ⟨b4,9,none⟩=some (.int .i64 n.nw):=hS.nd.blk.cell 9;have HS:Hid (LdS W g (.slice va l.length vc) l b4 w k n x):=hS;have hbr:n.ro≠3∨(n.ro=3/\¬ n.nw<=100000):=by unfold good at hb0;omega
 obtain ⟨m,hm⟩:∃ m,m=min l.length 400:=⟨_,rfl⟩;have HSZ:Hid (∀ u,Calls Tryz.prog 52 #[.slice va l.length vc] u fun e w'=>e=.returned (.int .i64 (m:Nat))/\w'=u):=fun u=>by rw [hm];exact Z2x va l.length vc hlm u
 have hm4:m<=400:=by omega
 obtain ⟨N,hN⟩:∃ N,N=3+m / 10:=⟨_,rfl⟩;have hN2:N<=200:=by omega
 have hNe:(3:Int)+(m:Int) / 10=(N:Int):=by omega
 have hkk:=dnD_k l k N hN2;have hok:=dnD_ok l k N hN2;obtain ⟨D,hD⟩:∃ D,D=dnD l k N:=⟨_,rfl⟩;have HDN:Hid (Calls Tryz.prog 51 #[.pointer (some ⟨g,0,none⟩),.int .i64 (N:Nat)] w fun r w'=>∃ x,r=.returned (.agg (ndC D.n x))/\NdO w' w.heap.size D.n x/\Src w' g (.slice va l.length vc) l D.k/\w.grownBy w' (some g)):=by rw [hD];exact Z0v g w _ l k N hL hk hN2 hS.src
 rw [<-hD] at hkk hok;have HOK:Hid (Yo D.n=0):=hok;have HKK:Hid (D.k<=k+5000):=hkk;clear hm hN hD hok hkk hS hb0
 conv=>arg 2;whnf
 rcases hbr with h1 | ⟨h1,h2⟩
 ·go_wp2_with (first
   |(go_at_call 52;refine (HSZ.out _).mono ?_;rintro r w1 ⟨rfl,hw1⟩;subst w1)
   |(go_at_call 51;go_loud (refine HDN.out.mono ?_;rintro r w2 ⟨x2,rfl,ho2,hs2,hg2⟩;have HO2:Hid (NdO w2 w.heap.size D.n x2):=ho2;have HS2:Hid (Src w2 g (.slice va l.length vc) l D.k):=hs2;have HG2:Hid (w.grownBy w2 (some g)):=hg2;have HB2:Hid (Blk w2 b4 (ndC n x) 36):=HS.out.nd.blk.keep (hg2.block b4 HS.out.nd.blk.lt (fun e=>by injection e with e;have h1:=HS.out.lo;omega));have HC1:Hid ((ndC D.n x2).all (·.oneCell')=true):=ho2.one.1;clear ho2 hs2 hg2))
   |(refine Y6 36 (.tmp 4) _ rfl ?_;refine Zz rfl 36 (.tmp 4) _ rfl b4 rfl rfl HB2.out Z3k rfl rfl HC1.out ?_))
  refine hP _ _ D.k D.n x2 ⟨rfl,rfl⟩ rfl rfl rfl rfl rfl ?_ HKK.out;exact HS.out.next HO2.out HS2.out HG2.out hgW HOK.out
 ·have h3:100000<n.nw:=by omega
  go_wp2_with (first
   |(go_at_call 52;refine (HSZ.out _).mono ?_;rintro r w1 ⟨rfl,hw1⟩;subst w1)
   |(go_at_call 51;go_loud (refine HDN.out.mono ?_;rintro r w2 ⟨x2,rfl,ho2,hs2,hg2⟩;have HO2:Hid (NdO w2 w.heap.size D.n x2):=ho2;have HS2:Hid (Src w2 g (.slice va l.length vc) l D.k):=hs2;have HG2:Hid (w.grownBy w2 (some g)):=hg2;have HB2:Hid (Blk w2 b4 (ndC n x) 36):=HS.out.nd.blk.keep (hg2.block b4 HS.out.nd.blk.lt (fun e=>by injection e with e;have h1:=HS.out.lo;omega));have HC1:Hid ((ndC D.n x2).all (·.oneCell')=true):=ho2.one.1;clear ho2 hs2 hg2))
   |(refine Y6 36 (.tmp 4) _ rfl ?_;refine Zz rfl 36 (.tmp 4) _ rfl b4 rfl rfl HB2.out Z3k rfl rfl HC1.out ?_))
  refine hP _ _ D.k D.n x2 ⟨rfl,rfl⟩ rfl rfl rfl rfl rfl ?_ HKK.out;exact HS.out.next HO2.out HS2.out HG2.out hgW HOK.out
theorem dlExit {R:Exit->Act->World->Prop}{K:Act->World->Prop}{a:Act}{w:World}{b4 q:Nat}{n:Nd}{x:RV}(hx:q=40∨good n)(hq:q<=40)(hF:SzD a 53)(hB:Blk w b4 (ndC n x) 36){e0 e2 e3:Value}(h0:a.eval (.tmp 0)=e0)(h2:a.eval (.tmp 2)=e2)(h3:a.eval (.tmp 3)=e3)(h4:a.eval (.tmp 4)=.pointer (some ⟨b4,0,none⟩))(h5:a.eval (.tmp 5)=.int .i64 (q:Nat))(hP:∀ a',SzD a' 53->a'.eval (.tmp 2)=e2->a'.eval (.tmp 4)=.pointer (some ⟨b4,0,none⟩)->R (.exit 0) a' w):(Zy (Zf (Z1 1 (Z2 3 (Z9 Tryz.f24))))).wp Tryz.prog (Exit.then K R) a w:=by
 obtain ⟨t,rfl⟩:=hF.opened;clear hF;rw [show lst t 0 53 = [t 0,t 1,t 2,t 3,t 4,t 5,t 6,t 7,t 8,t 9,t 10,t 11,t 12,t 13,t 14,t 15,t 16,t 17,t 18,t 19,t 20,t 21,t 22,t 23,t 24,t 25,t 26,t 27,t 28,t 29,t 30,t 31,t 32,t 33,t 34,t 35,t 36,t 37,t 38,t 39,t 40,t 41,t 42,t 43,t 44,t 45,t 46,t 47,t 48,t 49,t 50,t 51,t 52] from rfl];rw [show t 0=e0 from h0];rw [show t 2=e2 from h2];rw [show t 3=e3 from h3];rw [show t 4=.pointer (some ⟨b4,0,none⟩) from h4];rw [show t 5=.int .i64 (q:Nat) from h5];clear h0 h2 h3 h4 h5;have c6:w.cell? ⟨b4,6,none⟩=some (.int .i64 n.ro):=hB.cell 6;have c9:w.cell? ⟨b4,9,none⟩=some (.int .i64 n.nw):=hB.cell 9;have HP:Hid (∀ a',SzD a' 53->a'.eval (.tmp 2)=e2->a'.eval (.tmp 4)=.pointer (some ⟨b4,0,none⟩)->R (.exit 0) a' w):=hP;clear hP hB
 conv=>arg 2;whnf
 by_cases hq4:q=40
 ·go_wp2_with fail
  exact HP.out _ ⟨rfl,rfl⟩ rfl rfl
 ·obtain ⟨g1,g2⟩:n.ro=3/\n.nw<=100000:=by rcases hx with h | h;exact absurd h hq4;exact h
  have hq':q<40:=by omega
  have g3:¬ 100000<n.nw:=by omega
  go_wp2_with fail
  exact HP.out _ ⟨rfl,rfl⟩ rfl rfl
theorem dlLoop {W:World}{g b2 b4 k:Nat}{va:Option Addr}{vc:Nat}{l:List Int}{n:Nd}{x:RV}{Q:Exit->Act->World->Prop}{K:Act->World->Prop}{a:Act}{w:World}(hL:l.length<=1048576)(hlm:l.length<=maxLen)(hk:k<=100000)(hgW:g<W.heap.size)(hF:SzD a 53)(h0:a.eval (.tmp 0)=.slice va l.length vc)(h2:a.eval (.tmp 2)=.pointer (some ⟨b2,0,none⟩))(h3:a.eval (.tmp 3)=.pointer (some ⟨g,0,none⟩))(h4:a.eval (.tmp 4)=.pointer (some ⟨b4,0,none⟩))(h5:a.eval (.tmp 5)=.int .i64 0)(hS:LdS W g (.slice va l.length vc) l b4 w k n x)(hP:∀ a' w' k' n' x',SzD a' 53->a'.eval (.tmp 2)=.pointer (some ⟨b2,0,none⟩)->a'.eval (.tmp 4)=.pointer (some ⟨b4,0,none⟩)->LdS W g (.slice va l.length vc) l b4 w' k' n' x'->K a' w'):(Z1 1 (Z2 3 (Z9 Tryz.f24))).wp Tryz.prog (Exit.then K Q) a w:=by
 rw [show Z1 1 (Z2 3 (Z9 Tryz.f24))=.block 0 (.loop (Zy (Zf (Z1 1 (Z2 3 (Z9 Tryz.f24)))))) from rfl];refine wp_block ?_;refine wp_loop (fun a w=>∃(q k':Nat) (n':Nd) (x':RV),q<=40/\k'<=100000+5000*q/\SzD a 53/\a.eval (.tmp 0)=.slice va l.length vc/\a.eval (.tmp 2)=.pointer (some ⟨b2,0,none⟩)/\a.eval (.tmp 3)=.pointer (some ⟨g,0,none⟩)/\a.eval (.tmp 4)=.pointer (some ⟨b4,0,none⟩)/\a.eval (.tmp 5)=.int .i64 (q:Nat)/\LdS W g (.slice va l.length vc) l b4 w k' n' x') (fun a _=>41-(RowKit.intOf (a.eval (.tmp 5))).toNat) ⟨0,k,n,x,by omega,by omega,hF,h0,h2,h3,h4,h5,hS⟩ ?_;rintro a1 w1 ⟨q,k1,n1,x1,hq,hk1,f1,g0,g2,g3,g4,g5,s1⟩;by_cases hx:q=40∨good n1
 ·refine dlExit (n:=n1) (x:=x1) hx hq f1 s1.nd.blk g0 g2 g3 g4 g5 ?_
  intro a' f2 e2 e4;exact hP a' w1 k1 n1 x1 f2 e2 e4 s1
 ·have hx':¬ q=40/\¬ good n1:=⟨fun h=>hx (.inl h),fun h=>hx (.inr h)⟩
  refine dlRound (by omega) hL hlm (by omega) hx'.2 hgW f1 g0 g2 g3 g4 g5 s1 ?_;intro a' w' k' n' x' f2 e0 e2 e3 e4 e5 s2 hk2;refine ⟨⟨q+1,k',n',x',by omega,by omega,f2,e0,e2,e3,e4,by rw [e5];rfl,s2⟩,?_⟩;rw [e5,g5];simp only [RowKit.intOf];omega
def ldZ:Nd:=⟨1,3,5,2,2,1,3,1,0,0,Xg 5 0,0,[],[],[0,1,1],[0,0,0],[0,0,0],[0,0,0]⟩
theorem ldZ_ok:Yo ldZ=0:=by
 have h:=toutW 5 0 (by omega) (by omega);refine Z02 (n:=ldZ) rfl rfl rfl (by decide) rfl rfl ?_ rfl rfl;show Y7 5 0 (Xg 5 0) 0=true;simp only [Y7,Bool.and_eq_true,Zs];omega
def ld0:Nd:=⟨1,3,5,2,2,1,0,0,0,0,Xg 5 0,0,[],[],[],[],[],[]⟩
theorem ld0_new:newN 1 3 5 2 2 1 0 []=ld0:=rfl
theorem es_nil (w:World):Es w (.slice none 0 0) []:=by
 refine ⟨by simp [maxLen],(fun e h=>by cases h),none,0,rfl,fun i hi=>by simp at hi⟩
theorem dl7 {b4:Nat}{e2:Value}{n:Nd}{x:RV}{Q:Exit->Act->World->Prop}{K:Act->World->Prop}{a:Act}{w:World}(hF:SzD a 53)(h2:a.eval (.tmp 2)=e2)(h4:a.eval (.tmp 4)=.pointer (some ⟨b4,0,none⟩))(hB:Blk w b4 (ndC n x) 36)(hP:∀ a',SzD a' 53->a'.eval (.tmp 2)=e2->a'.eval (.tmp 4)=.pointer (some ⟨b4,0,none⟩)->a'.eval (.tmp 39)=.bool (decide (¬(n.ro=3/\n.nw<=100000)))->K a' w):(Z2 0 (Z2 4 (Z9 Tryz.f24))).wp Tryz.prog (Exit.then K Q) a w:=by
 obtain ⟨t,rfl⟩:=hF.opened;clear hF;rw [show lst t 0 53 = [t 0,t 1,t 2,t 3,t 4,t 5,t 6,t 7,t 8,t 9,t 10,t 11,t 12,t 13,t 14,t 15,t 16,t 17,t 18,t 19,t 20,t 21,t 22,t 23,t 24,t 25,t 26,t 27,t 28,t 29,t 30,t 31,t 32,t 33,t 34,t 35,t 36,t 37,t 38,t 39,t 40,t 41,t 42,t 43,t 44,t 45,t 46,t 47,t 48,t 49,t 50,t 51,t 52] from rfl];rw [show t 2=e2 from h2];rw [show t 4=.pointer (some ⟨b4,0,none⟩) from h4];clear h2 h4;have c6:w.cell? ⟨b4,6,none⟩=some (.int .i64 n.ro):=hB.cell 6;have c9:w.cell? ⟨b4,9,none⟩=some (.int .i64 n.nw):=hB.cell 9;clear hB
 conv=>arg 2;whnf
 by_cases g1:n.ro=3
 ·by_cases g2:n.nw<=100000
  ·have g3:¬ 100000<n.nw:=by omega
   go_wp2_with fail
   exact hP _ ⟨rfl,rfl⟩ rfl rfl (by simp [Act.eval,g1,g2])
  ·have g3:100000<n.nw:=by omega
   go_wp2_with fail
   exact hP _ ⟨rfl,rfl⟩ rfl rfl (by simp [Act.eval,g1,g2])
 ·go_wp2_with fail
  exact hP _ ⟨rfl,rfl⟩ rfl rfl (by simp [Act.eval,g1])
theorem ndoZ {w:World}{B:Nat}{b:Option Addr}{c:Nat}(h:Zp w B (.slice b 0 c) []):NdO w B ld0 (rvZ b 0 c):=by
 have hz:∀ u:Value,Ya (.slice none 0 0) u:=fun u k e=>by cases e
 refine ⟨h,Zg.nil _ _ _ _ _,Zg.nil _ _ _ _ _,Zg.nil _ _ _ _ _,Zg.nil _ _ _ _ _,Zg.nil _ _ _ _ _,?_⟩;simp only [rvZ,List.pairwise_cons,List.mem_cons,List.not_mem_nil,or_false,forall_eq_or_imp,forall_eq,List.Pairwise.nil,and_true,false_imp_iff,implies_true];exact ⟨⟨hz _,hz _,hz _,hz _⟩,⟨hz _,hz _,hz _⟩,⟨hz _,hz _⟩,hz _⟩
theorem dl8 {b4 B:Nat}{e2:Value}{C:Array Value}{D:Nat}{Q:Exit->Act->World->Prop}{K:Act->World->Prop}{a:Act}{w:World}(hF:SzD a 53)(h2:a.eval (.tmp 2)=e2)(h4:a.eval (.tmp 4)=.pointer (some ⟨b4,0,none⟩))(hB:Blk w b4 C 36)(hC:C.size=18)(hlo:B<=w.heap.size)(hD1:D<=b4)(hD2:D<=w.heap.size)(hP:∀ a' w' x',SzD a' 53->a'.eval (.tmp 2)=e2->a'.eval (.tmp 4)=.pointer (some ⟨b4,0,none⟩)->NdS w' B b4 ld0 x'->Below D w w'->K a' w'):(Z2 0 (Zo (Z1 1 (Z2 4 (Z9 Tryz.f24))))).wp Tryz.prog (Exit.then K Q) a w:=by
 obtain ⟨t,rfl⟩:=hF.opened;clear hF;rw [show lst t 0 53 = [t 0,t 1,t 2,t 3,t 4,t 5,t 6,t 7,t 8,t 9,t 10,t 11,t 12,t 13,t 14,t 15,t 16,t 17,t 18,t 19,t 20,t 21,t 22,t 23,t 24,t 25,t 26,t 27,t 28,t 29,t 30,t 31,t 32,t 33,t 34,t 35,t 36,t 37,t 38,t 39,t 40,t 41,t 42,t 43,t 44,t 45,t 46,t 47,t 48,t 49,t 50,t 51,t 52] from rfl];rw [show t 2=e2 from h2];rw [show t 4=.pointer (some ⟨b4,0,none⟩) from h4];clear h2 h4;have HB:Hid (Blk w b4 C 36):=hB;have HN:Hid (Calls Tryz.prog 63 #[.int .i64 1,.int .i64 3,.int .i64 5,.int .i64 2,.agg #[.int .i64 2,.int .i64 1,.slice none 0 0],.int .i64 0] w fun e w'=>∃ b c,e=.returned (.agg (ndC ld0 (rvZ b 0 c)))/\Zp w' w.heap.size (.slice b 0 c) []/\Below w.heap.size w w'):=by have h9:=newNode_d 1 3 5 2 2 1 0 none 0 [] w (es_nil w) (by decide) (by omega) (by omega);rw [ld0_new] at h9;exact h9
 have HC:Hid (C.size=18):=hC;clear hB hC
 conv=>arg 2;whnf
 go_wp2_with (first
  |(go_at_call 63;go_loud (refine HN.out.mono ?_;rintro r w2 ⟨b,c,rfl,ho2,hb2⟩;have HO2:Hid (NdO w2 B ld0 (rvZ b 0 c)):=ndoZ (ho2.le hlo);have HBl:Hid _:=hb2;have HB2:Hid (Blk w2 b4 C 36):=HB.out.below hb2 HB.out.lt;have HC1:Hid ((ndC ld0 (rvZ b 0 c)).all (·.oneCell')=true):=HO2.out.one.1;clear ho2 hb2))
  |(refine Y6 36 (.tmp 4) _ rfl ?_;refine Zz rfl 36 (.tmp 4) _ rfl b4 rfl rfl HB2.out Z3k rfl HC.out HC1.out ?_))
 exact hP _ _ _ ⟨rfl,rfl⟩ rfl rfl (NdS.row HB2.out HC.out HO2.out) (X4 (HBl.out.mono hD2) hD1 _)
theorem dl9 {b4 B:Nat}{e2:Value}{n:Nd}{x:RV}{D:Nat}{Q:Exit->Act->World->Prop}{K:Act->World->Prop}{a:Act}{w:World}(hF:SzD a 53)(h2:a.eval (.tmp 2)=e2)(h4:a.eval (.tmp 4)=.pointer (some ⟨b4,0,none⟩))(hS:NdS w B b4 n x)(hD1:D<=b4)(hP:∀ a' w',SzD a' 53->a'.eval (.tmp 2)=e2->a'.eval (.tmp 4)=.pointer (some ⟨b4,0,none⟩)->NdS w' B b4 { n with ro:=3 } x->Below D w w'->K a' w'):(Z2 1 (Zo (Z1 1 (Z2 4 (Z9 Tryz.f24))))).wp Tryz.prog (Exit.then K Q) a w:=by
 obtain ⟨t,rfl⟩:=hF.opened;clear hF;rw [show lst t 0 53 = [t 0,t 1,t 2,t 3,t 4,t 5,t 6,t 7,t 8,t 9,t 10,t 11,t 12,t 13,t 14,t 15,t 16,t 17,t 18,t 19,t 20,t 21,t 22,t 23,t 24,t 25,t 26,t 27,t 28,t 29,t 30,t 31,t 32,t 33,t 34,t 35,t 36,t 37,t 38,t 39,t 40,t 41,t 42,t 43,t 44,t 45,t 46,t 47,t 48,t 49,t 50,t 51,t 52] from rfl];rw [show t 2=e2 from h2];rw [show t 4=.pointer (some ⟨b4,0,none⟩) from h4];clear h2 h4;have c6:w.cell? ⟨b4,6,none⟩=some (.int .i64 n.ro):=hS.blk.cell 6;have f6:w.frozen? ⟨b4,6,none⟩=false:=hS.blk.free 6;have HS:Hid (NdS w B b4 n x):=hS;clear hS
 conv=>arg 2;whnf
 go_wp2_with fail
 exact hP _ _ ⟨rfl,rfl⟩ rfl rfl (HS.out.set 6 (by omega) _ rfl rfl rfl rfl rfl rfl rfl) ((Below.refl _ _).setCell (p:=⟨b4,6,none⟩) hD1 _)
theorem dl10 {b4 B:Nat}{e2:Value}{n:Nd}{x:RV}{D:Nat}{Q:Exit->Act->World->Prop}{K:Act->World->Prop}{a:Act}{w:World}(hF:SzD a 53)(h2:a.eval (.tmp 2)=e2)(h4:a.eval (.tmp 4)=.pointer (some ⟨b4,0,none⟩))(hS:NdS w B b4 n x)(hD1:D<=b4)(hP:∀ a' w',SzD a' 53->a'.eval (.tmp 2)=e2->a'.eval (.tmp 4)=.pointer (some ⟨b4,0,none⟩)->NdS w' B b4 { n with ld:=1 } x->Below D w w'->K a' w'):(Z2 2 (Zo (Z1 1 (Z2 4 (Z9 Tryz.f24))))).wp Tryz.prog (Exit.then K Q) a w:=by
 obtain ⟨t,rfl⟩:=hF.opened;clear hF;rw [show lst t 0 53 = [t 0,t 1,t 2,t 3,t 4,t 5,t 6,t 7,t 8,t 9,t 10,t 11,t 12,t 13,t 14,t 15,t 16,t 17,t 18,t 19,t 20,t 21,t 22,t 23,t 24,t 25,t 26,t 27,t 28,t 29,t 30,t 31,t 32,t 33,t 34,t 35,t 36,t 37,t 38,t 39,t 40,t 41,t 42,t 43,t 44,t 45,t 46,t 47,t 48,t 49,t 50,t 51,t 52] from rfl];rw [show t 2=e2 from h2];rw [show t 4=.pointer (some ⟨b4,0,none⟩) from h4];clear h2 h4;have c6:w.cell? ⟨b4,7,none⟩=some (.int .i64 n.ld):=hS.blk.cell 7;have f6:w.frozen? ⟨b4,7,none⟩=false:=hS.blk.free 7;have HS:Hid (NdS w B b4 n x):=hS;clear hS
 conv=>arg 2;whnf
 go_wp2_with fail
 exact hP _ _ ⟨rfl,rfl⟩ rfl rfl (HS.out.set 7 (by omega) _ rfl rfl rfl rfl rfl rfl rfl) ((Below.refl _ _).setCell (p:=⟨b4,7,none⟩) hD1 _)
theorem dl11 {b4 B:Nat}{e2:Value}{n:Nd}{x:RV}{D:Nat}{Q:Exit->Act->World->Prop}{K:Act->World->Prop}{a:Act}{w:World}(hF:SzD a 53)(h2:a.eval (.tmp 2)=e2)(h4:a.eval (.tmp 4)=.pointer (some ⟨b4,0,none⟩))(hS:NdS w B b4 n x)(hB:B<=w.heap.size)(hD1:D<=b4)(hD2:D<=w.heap.size)(hP:∀ a' w' x',SzD a' 53->a'.eval (.tmp 2)=e2->a'.eval (.tmp 4)=.pointer (some ⟨b4,0,none⟩)->NdS w' B b4 { n with nx:=[0,1,1] } x'->Below D w w'->K a' w'):(Z2 3 (Zo (Z1 1 (Z2 4 (Z9 Tryz.f24))))).wp Tryz.prog (Exit.then K Q) a w:=by
 obtain ⟨t,rfl⟩:=hF.opened;clear hF;rw [show lst t 0 53 = [t 0,t 1,t 2,t 3,t 4,t 5,t 6,t 7,t 8,t 9,t 10,t 11,t 12,t 13,t 14,t 15,t 16,t 17,t 18,t 19,t 20,t 21,t 22,t 23,t 24,t 25,t 26,t 27,t 28,t 29,t 30,t 31,t 32,t 33,t 34,t 35,t 36,t 37,t 38,t 39,t 40,t 41,t 42,t 43,t 44,t 45,t 46,t 47,t 48,t 49,t 50,t 51,t 52] from rfl];rw [show t 2=e2 from h2];rw [show t 4=.pointer (some ⟨b4,0,none⟩) from h4];clear h2 h4;have c6:∀ o:Obj,(w.alloc o).cell? ⟨b4,14,none⟩=some x.vn:=fun o=>(hS.blk.alloc o).cell 14
 have f6:∀ o:Obj,(w.alloc o).frozen? ⟨b4,14,none⟩=false:=fun o=>(hS.blk.alloc o).free 14
 have HA:Hid (NdS ((w.alloc (.cells #[.int .i64 0,.int .i64 1,.int .i64 1] 3)).setCell ⟨b4,14,none⟩ (.slice (some ⟨w.heap.size,0,none⟩) 3 3)) B b4 { n with nx:=[0,1,1] } { x with vn:=.slice (some ⟨w.heap.size,0,none⟩) 3 3 }):=(hS.nxLit hB #[.int .i64 0,.int .i64 1,.int .i64 1] (q:=[0,1,1]) rfl (by decide)).2;have HBl:Hid (Below D w ((w.alloc (.cells #[.int .i64 0,.int .i64 1,.int .i64 1] 3)).setCell ⟨b4,14,none⟩ (.slice (some ⟨w.heap.size,0,none⟩) 3 3))):=((Below.refl _ _).alloc hD2 _).setCell (p:=⟨b4,14,none⟩) hD1 _;have hlt:b4<w.heap.size:=hS.blk.lt;have Hlt:Hid (b4<w.heap.size):=hlt;clear hS
 conv=>arg 2;whnf
 go_wp2_with fail
 exact hP _ _ _ ⟨rfl,rfl⟩ rfl rfl (by first | exact HA.out | (rw [<-World.setCell_alloc_past _ _ _ _ Hlt.out];exact HA.out)) (by first | exact HBl.out | (rw [<-World.setCell_alloc_past _ _ _ _ Hlt.out];exact HBl.out))
theorem dl12 {b4 B:Nat}{e2:Value}{n:Nd}{x:RV}{D:Nat}{Q:Exit->Act->World->Prop}{K:Act->World->Prop}{a:Act}{w:World}(hF:SzD a 53)(h2:a.eval (.tmp 2)=e2)(h4:a.eval (.tmp 4)=.pointer (some ⟨b4,0,none⟩))(hS:NdS w B b4 n x)(hB:B<=w.heap.size)(hD1:D<=b4)(hD2:D<=w.heap.size)(hP:∀ a' w' x',SzD a' 53->a'.eval (.tmp 2)=e2->a'.eval (.tmp 4)=.pointer (some ⟨b4,0,none⟩)->NdS w' B b4 { n with mt:=[0,0,0] } x'->Below D w w'->K a' w'):(Z2 4 (Zo (Z1 1 (Z2 4 (Z9 Tryz.f24))))).wp Tryz.prog (Exit.then K Q) a w:=by
 obtain ⟨t,rfl⟩:=hF.opened;clear hF;rw [show lst t 0 53 = [t 0,t 1,t 2,t 3,t 4,t 5,t 6,t 7,t 8,t 9,t 10,t 11,t 12,t 13,t 14,t 15,t 16,t 17,t 18,t 19,t 20,t 21,t 22,t 23,t 24,t 25,t 26,t 27,t 28,t 29,t 30,t 31,t 32,t 33,t 34,t 35,t 36,t 37,t 38,t 39,t 40,t 41,t 42,t 43,t 44,t 45,t 46,t 47,t 48,t 49,t 50,t 51,t 52] from rfl];rw [show t 2=e2 from h2];rw [show t 4=.pointer (some ⟨b4,0,none⟩) from h4];clear h2 h4;have c6:∀ o:Obj,(w.alloc o).cell? ⟨b4,15,none⟩=some x.vm:=fun o=>(hS.blk.alloc o).cell 15
 have f6:∀ o:Obj,(w.alloc o).frozen? ⟨b4,15,none⟩=false:=fun o=>(hS.blk.alloc o).free 15
 have HA:Hid (NdS ((w.alloc (.cells #[.int .i64 0,.int .i64 0,.int .i64 0] 3)).setCell ⟨b4,15,none⟩ (.slice (some ⟨w.heap.size,0,none⟩) 3 3)) B b4 { n with mt:=[0,0,0] } { x with vm:=.slice (some ⟨w.heap.size,0,none⟩) 3 3 }):=(hS.mtLit hB #[.int .i64 0,.int .i64 0,.int .i64 0] (q:=[0,0,0]) rfl (by decide)).2;have HBl:Hid (Below D w ((w.alloc (.cells #[.int .i64 0,.int .i64 0,.int .i64 0] 3)).setCell ⟨b4,15,none⟩ (.slice (some ⟨w.heap.size,0,none⟩) 3 3))):=((Below.refl _ _).alloc hD2 _).setCell (p:=⟨b4,15,none⟩) hD1 _;have hlt:b4<w.heap.size:=hS.blk.lt;have Hlt:Hid (b4<w.heap.size):=hlt;clear hS
 conv=>arg 2;whnf
 go_wp2_with fail
 exact hP _ _ _ ⟨rfl,rfl⟩ rfl rfl (by first | exact HA.out | (rw [<-World.setCell_alloc_past _ _ _ _ Hlt.out];exact HA.out)) (by first | exact HBl.out | (rw [<-World.setCell_alloc_past _ _ _ _ Hlt.out];exact HBl.out))
theorem dl13 {b4 B:Nat}{e2:Value}{n:Nd}{x:RV}{D:Nat}{Q:Exit->Act->World->Prop}{K:Act->World->Prop}{a:Act}{w:World}(hF:SzD a 53)(h2:a.eval (.tmp 2)=e2)(h4:a.eval (.tmp 4)=.pointer (some ⟨b4,0,none⟩))(hS:NdS w B b4 n x)(hB:B<=w.heap.size)(hD1:D<=b4)(hD2:D<=w.heap.size)(hP:∀ a' w' x',SzD a' 53->a'.eval (.tmp 2)=e2->a'.eval (.tmp 4)=.pointer (some ⟨b4,0,none⟩)->NdS w' B b4 { n with se:=[0,0,0] } x'->Below D w w'->K a' w'):(Z2 5 (Zo (Z1 1 (Z2 4 (Z9 Tryz.f24))))).wp Tryz.prog (Exit.then K Q) a w:=by
 obtain ⟨t,rfl⟩:=hF.opened;clear hF;rw [show lst t 0 53 = [t 0,t 1,t 2,t 3,t 4,t 5,t 6,t 7,t 8,t 9,t 10,t 11,t 12,t 13,t 14,t 15,t 16,t 17,t 18,t 19,t 20,t 21,t 22,t 23,t 24,t 25,t 26,t 27,t 28,t 29,t 30,t 31,t 32,t 33,t 34,t 35,t 36,t 37,t 38,t 39,t 40,t 41,t 42,t 43,t 44,t 45,t 46,t 47,t 48,t 49,t 50,t 51,t 52] from rfl];rw [show t 2=e2 from h2];rw [show t 4=.pointer (some ⟨b4,0,none⟩) from h4];clear h2 h4;have c6:∀ o:Obj,(w.alloc o).cell? ⟨b4,16,none⟩=some x.vs:=fun o=>(hS.blk.alloc o).cell 16
 have f6:∀ o:Obj,(w.alloc o).frozen? ⟨b4,16,none⟩=false:=fun o=>(hS.blk.alloc o).free 16
 have HA:Hid (NdS ((w.alloc (.cells #[.int .i64 0,.int .i64 0,.int .i64 0] 3)).setCell ⟨b4,16,none⟩ (.slice (some ⟨w.heap.size,0,none⟩) 3 3)) B b4 { n with se:=[0,0,0] } { x with vs:=.slice (some ⟨w.heap.size,0,none⟩) 3 3 }):=(hS.seLit hB #[.int .i64 0,.int .i64 0,.int .i64 0] (q:=[0,0,0]) rfl (by decide)).2;have HBl:Hid (Below D w ((w.alloc (.cells #[.int .i64 0,.int .i64 0,.int .i64 0] 3)).setCell ⟨b4,16,none⟩ (.slice (some ⟨w.heap.size,0,none⟩) 3 3))):=((Below.refl _ _).alloc hD2 _).setCell (p:=⟨b4,16,none⟩) hD1 _;have hlt:b4<w.heap.size:=hS.blk.lt;have Hlt:Hid (b4<w.heap.size):=hlt;clear hS
 conv=>arg 2;whnf
 go_wp2_with fail
 exact hP _ _ _ ⟨rfl,rfl⟩ rfl rfl (by first | exact HA.out | (rw [<-World.setCell_alloc_past _ _ _ _ Hlt.out];exact HA.out)) (by first | exact HBl.out | (rw [<-World.setCell_alloc_past _ _ _ _ Hlt.out];exact HBl.out))
theorem dl14 {b4 B:Nat}{e2:Value}{n:Nd}{x:RV}{D:Nat}{Q:Exit->Act->World->Prop}{K:Act->World->Prop}{a:Act}{w:World}(hF:SzD a 53)(h2:a.eval (.tmp 2)=e2)(h4:a.eval (.tmp 4)=.pointer (some ⟨b4,0,none⟩))(hS:NdS w B b4 n x)(hB:B<=w.heap.size)(hD1:D<=b4)(hD2:D<=w.heap.size)(hP:∀ a' w' x',SzD a' 53->a'.eval (.tmp 2)=e2->a'.eval (.tmp 4)=.pointer (some ⟨b4,0,none⟩)->NdS w' B b4 { n with st:=[0,0,0] } x'->Below D w w'->K a' w'):(Z1 6 (Zo (Z1 1 (Z2 4 (Z9 Tryz.f24))))).wp Tryz.prog (Exit.then K Q) a w:=by
 obtain ⟨t,rfl⟩:=hF.opened;clear hF;rw [show lst t 0 53 = [t 0,t 1,t 2,t 3,t 4,t 5,t 6,t 7,t 8,t 9,t 10,t 11,t 12,t 13,t 14,t 15,t 16,t 17,t 18,t 19,t 20,t 21,t 22,t 23,t 24,t 25,t 26,t 27,t 28,t 29,t 30,t 31,t 32,t 33,t 34,t 35,t 36,t 37,t 38,t 39,t 40,t 41,t 42,t 43,t 44,t 45,t 46,t 47,t 48,t 49,t 50,t 51,t 52] from rfl];rw [show t 2=e2 from h2];rw [show t 4=.pointer (some ⟨b4,0,none⟩) from h4];clear h2 h4;have c6:∀ o:Obj,(w.alloc o).cell? ⟨b4,17,none⟩=some x.vt:=fun o=>(hS.blk.alloc o).cell 17
 have f6:∀ o:Obj,(w.alloc o).frozen? ⟨b4,17,none⟩=false:=fun o=>(hS.blk.alloc o).free 17
 have HA:Hid (NdS ((w.alloc (.cells #[.int .i64 0,.int .i64 0,.int .i64 0] 3)).setCell ⟨b4,17,none⟩ (.slice (some ⟨w.heap.size,0,none⟩) 3 3)) B b4 { n with st:=[0,0,0] } { x with vt:=.slice (some ⟨w.heap.size,0,none⟩) 3 3 }):=(hS.stLit hB #[.int .i64 0,.int .i64 0,.int .i64 0] (q:=[0,0,0]) rfl (by decide)).2;have HBl:Hid (Below D w ((w.alloc (.cells #[.int .i64 0,.int .i64 0,.int .i64 0] 3)).setCell ⟨b4,17,none⟩ (.slice (some ⟨w.heap.size,0,none⟩) 3 3))):=((Below.refl _ _).alloc hD2 _).setCell (p:=⟨b4,17,none⟩) hD1 _;have hlt:b4<w.heap.size:=hS.blk.lt;have Hlt:Hid (b4<w.heap.size):=hlt;clear hS
 conv=>arg 2;whnf
 go_wp2_with fail
 exact hP _ _ _ ⟨rfl,rfl⟩ rfl rfl (by first | exact HA.out | (rw [<-World.setCell_alloc_past _ _ _ _ Hlt.out];exact HA.out)) (by first | exact HBl.out | (rw [<-World.setCell_alloc_past _ _ _ _ Hlt.out];exact HBl.out))
theorem dlT {b4 B D:Nat}{e2:Value}{C:Array Value}{Q:Exit->Act->World->Prop}{K:Act->World->Prop}{a:Act}{w:World}(hF:SzD a 53)(h2:a.eval (.tmp 2)=e2)(h4:a.eval (.tmp 4)=.pointer (some ⟨b4,0,none⟩))(hB:Blk w b4 C 36)(hC:C.size=18)(hlo:B<=w.heap.size)(hD1:D<=b4)(hD2:D<=w.heap.size)(hP:∀ a' w' x',SzD a' 53->a'.eval (.tmp 2)=e2->a'.eval (.tmp 4)=.pointer (some ⟨b4,0,none⟩)->NdS w' B b4 ldZ x'->Below D w w'->K a' w'):(Zo (Z1 1 (Z2 4 (Z9 Tryz.f24)))).wp Tryz.prog (Exit.then K Q) a w:=by
 rw [show Zo (Z1 1 (Z2 4 (Z9 Tryz.f24)))=.seq (Z2 0 (Zo (Z1 1 (Z2 4 (Z9 Tryz.f24))))) (.seq (Z2 1 (Zo (Z1 1 (Z2 4 (Z9 Tryz.f24))))) (.seq (Z2 2 (Zo (Z1 1 (Z2 4 (Z9 Tryz.f24))))) (.seq (Z2 3 (Zo (Z1 1 (Z2 4 (Z9 Tryz.f24))))) (.seq (Z2 4 (Zo (Z1 1 (Z2 4 (Z9 Tryz.f24))))) (.seq (Z2 5 (Zo (Z1 1 (Z2 4 (Z9 Tryz.f24))))) (Z1 6 (Zo (Z1 1 (Z2 4 (Z9 Tryz.f24)))))))))) from rfl];refine wp_seq_k ?_;intro K1 hK1;refine dl8 (B:=B) (D:=D) hF h2 h4 hB hC hlo hD1 hD2 fun a1 w1 x1 f1 g2 g4 s1 b1=>hK1 _ _ ?_
 have z1:=b1.size;refine wp_seq_k ?_;intro K2 hK2;refine dl9 (D:=D) f1 g2 g4 s1 hD1 fun a2 w2 f2 i2 i4 s2 b2=>hK2 _ _ ?_
 have z2:=b2.size;refine wp_seq_k ?_;intro K3 hK3;refine dl10 (D:=D) f2 i2 i4 s2 hD1 fun a3 w3 f3 j2 j4 s3 b3=>hK3 _ _ ?_
 have z3:=b3.size;refine wp_seq_k ?_;intro K4 hK4;refine dl11 (D:=D) f3 j2 j4 s3 (by omega) hD1 (by omega) fun a4 w4 x4 f4 k2 k4 s4 b4'=>hK4 _ _ ?_
 have z4:=b4'.size;refine wp_seq_k ?_;intro K5 hK5;refine dl12 (D:=D) f4 k2 k4 s4 (by omega) hD1 (by omega) fun a5 w5 x5 f5 l2 l4 s5 b5=>hK5 _ _ ?_
 have z5:=b5.size;refine wp_seq_k ?_;intro K6 hK6;refine dl13 (D:=D) f5 l2 l4 s5 (by omega) hD1 (by omega) fun a6 w6 x6 f6 m2 m4 s6 b6=>hK6 _ _ ?_
 have z6:=b6.size;refine dl14 (D:=D) f6 m2 m4 s6 (by omega) hD1 (by omega) fun a7 w7 x7 f7 n2 n4 s7 b7=>?_
 exact hP _ _ x7 f7 n2 n4 s7 ((((((b1.trans b2).trans b3).trans b4').trans b5).trans b6).trans b7)
theorem dl15 {b2 b4 B:Nat}{n:Nd}{x:RV}{Q:Exit->Act->World->Prop}{K:Act->World->Prop}{a:Act}{w:World}(hF:SzD a 53)(h2:a.eval (.tmp 2)=.pointer (some ⟨b2,0,none⟩))(h4:a.eval (.tmp 4)=.pointer (some ⟨b4,0,none⟩))(hS:NdS w B b4 n x)(hR:Blk w b2 J9 36)(hP:∀ a',SzD a' 53->a'.eval (.tmp 2)=.pointer (some ⟨b2,0,none⟩)->K a' (w.setRow b2 (ndC n x))):(Z2 5 (Z9 Tryz.f24)).wp Tryz.prog (Exit.then K Q) a w:=by
 obtain ⟨t,rfl⟩:=hF.opened;clear hF;rw [show lst t 0 53 = [t 0,t 1,t 2,t 3,t 4,t 5,t 6,t 7,t 8,t 9,t 10,t 11,t 12,t 13,t 14,t 15,t 16,t 17,t 18,t 19,t 20,t 21,t 22,t 23,t 24,t 25,t 26,t 27,t 28,t 29,t 30,t 31,t 32,t 33,t 34,t 35,t 36,t 37,t 38,t 39,t 40,t 41,t 42,t 43,t 44,t 45,t 46,t 47,t 48,t 49,t 50,t 51,t 52] from rfl];rw [show t 2=.pointer (some ⟨b2,0,none⟩) from h2];rw [show t 4=.pointer (some ⟨b4,0,none⟩) from h4];clear h2 h4;have Ho:Hid ((ndC n x).all (·.oneCell')=true):=hS.own.one.1;have HB:Hid (Blk w b4 (ndC n x) 36):=hS.blk;have HR:Hid (Blk w b2 J9 36):=hR;obtain ⟨C,hC⟩:∃ C,C=ndC n x:=⟨_,rfl⟩;rw [<-hC] at Ho HB hP;have HC1:Hid (18=C.size):=by unfold Hid;rw [hC];rfl
 clear hC hS hR;have hBA:True:=trivial
 conv=>arg 2;whnf
 go_wp2_with (first
  |(refine Zx 36 (.tmp 4) rfl ?_;clear hBA;refine Zk rfl 36 (.tmp 4) rfl b4 rfl HB.out Tryz.underlying36 rfl Z3k HC1.out ?_)
  |(refine Y6 36 (.tmp 2) _ rfl ?_;refine Zz rfl 36 (.tmp 2) _ rfl b2 rfl rfl HR.out Z3k HC1.out HC1.out Ho.out ?_))
 exact hP _ ⟨rfl,rfl⟩ rfl
end Go.Proofs.YtmmpoppgabadmaaGreat
