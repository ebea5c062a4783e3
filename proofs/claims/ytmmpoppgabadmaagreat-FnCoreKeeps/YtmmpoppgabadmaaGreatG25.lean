import Derived.Test.YtmmpoppgabadmaaGreatG24
import Derived.Test.YtmmpoppgabadmaaGreatG16
set_option linter.unusedVariables false
set_option linter.unusedSimpArgs false
set_option maxRecDepth 100000
set_option maxHeartbeats 16000000
open Go.Value renaming slice → I,int → Aa,pointer → Ae,agg → Aw
open Go.IntKind renaming i64 → O,wrap_i64 → Bl
open _root_.Nat renaming le_trans → Ap,lt_of_lt_of_le → Bk
open Go.World.ownsRow renaming lt → Aq
open _root_.List renaming map_toArray → Bm,map_cons → Bq,map_nil → Bu
namespace Go.Proofs.YtmmpoppgabadmaaGreat
open Go.Proofs.Tryz
open Go.RowKit
theorem dnRow_k0 (l:List Int)(a b i k q:Nat)(LN:Nat)(nw:Int)(s:DnR):∀ j,Xq l ⟨a,b,i,k⟩ LN nw s j=Xq l ⟨a,b,i,q⟩ LN nw s j
 | 0=>rfl
 | j+1=>by rw [Z54,Z54,dnRow_k0 l a b i k q LN nw s j];rfl
theorem dnLd_k0 (l:List Int)(a b i k q:Nat)(d:DnS):Z34 l ⟨a,b,i,k⟩ d=Z34 l ⟨a,b,i,q⟩ d:=by
 unfold Z34;dsimp only;rw [dnRow_k0 l a b i k q]
theorem Z85 (g:Nat)(w:World)(v:Value)(l:List Int)(k n:Nat)(hL:l.length<=1048576)(hk:k<=300000000)(hn:n<=200)(h:Src w g v l k) :
  Calls Tryz.prog 51 #[Ae (some ⟨g,0,none⟩),Aa O n] w λr w'=>∃ x,r=.returned (Aw (ndC (dnD l k n).n x))/\NdO w' w.heap.size (dnD l k n).n x/\Src w' g v l (dnD l k n).k/\w.grownBy w' (some g):=by
 have fc:=h.lt;have cf:=stD_v l k n;have du:=stD_len l k n;obtain ⟨W,hW⟩:=exq (w.alloc (.cells Z32 36))
 have b0:Hid (Dr w W g v l k [(w.heap.size,Z32,36)]):=by
  unfold Hid;rw [hW];have hX:=(Dr.start h).new Z32 36 (Zr);simpa using hX
 have de:(stD l k n).2.2.2<=600000000:=by have:=stD_k l k n;omega
 generalize hR:dnD l k n=R;have HR:=Z0 hR;clear hR h;obtain ⟨T,hT⟩:=exq ((stD l k n).1);obtain ⟨V,hV⟩:=exq ((stD l k n).2.1);obtain ⟨u,az⟩:=exq ((stD l k n).2.2.1);obtain ⟨k1,a1⟩:=exq ((stD l k n).2.2.2);have HN:Hid (T=(stD l k n).1/\V=(stD l k n).2.1/\u=(stD l k n).2.2.1/\k1=(stD l k n).2.2.2):=⟨hT,hV,az,a1⟩;rw [<-hV] at cf;rw [<-az] at du;rw [<-a1] at de
 have dm:=Z0 λz f=>by
  have s:=Z6x g z v l k n hL (by omega) hn f;rw [<-hT,<-hV,<-az,<-a1] at s;exact s
 clear hT hV az a1;obtain ⟨SZ,cp⟩:=exq ((dnH l k1).sz);have cg:Hid (SZ=if Z4 l (k1+1) 2=0 then 3 else 3+2*Z4 l k1 3):=cp;clear cp;go_enter func51,ntmps51
 go_upto_region 1 with fail
 rw [show w.alloc (.cells zNod 36)=W from hW.symm];have fe:W.heap.size=w.heap.size+1:=by rw [hW];simp
 clear hW;obtain ⟨p3,av⟩:=exq (Z4 l k1 3);obtain ⟨p2,a2⟩:=exq (Z4 l (k1+1) 2);have cd:=Z0 av;have bp:=Z0 a2;have ba:Hid (SZ=if p2=0 then 3 else 3+2*p3):=by rw [a2,av];exact cg
 have b3:p3<3:=by rw [av];exact Z6 _ _ _
 have b2:p2<2:=by rw [a2];exact Z6 _ _ _
 clear a2 av cg;have g1:=Z0 trivial
 go_upto_if 30 with (first
  |(go_at_call 92;go_loud (refine (dm _ b0.src).mono ?_);rintro r w1 ⟨ea,ec,rfl,ho,hs,hg⟩;go_loud (have dz:Hid (DL w (w1.alloc (.cells #[Aa O T,Aa O V,I ea u.length ec] 104)) g v l k1 [(w.heap.size,Z32,36),(w1.heap.size,stC T V ea u.length ec,104)] (I ea u.length ec) u):=⟨(by have hX:=(b0.call hs hg).new (stC T V ea u.length ec) 104 (Zr);exact hX),(ho.le (by omega)).below ((Below.refl _ _).alloc (Nat.le_refl _) _)⟩);clear ho hs hg)
  |(go_at_call 53;clear g1;go_loud (refine (dz.pick 3).mono ?_;rw [<-cd.out];rintro r w2 ⟨rfl,hd⟩;have ee:Hid (DL w w2 g v l (k1+1) _ _ u):=hd;clear hd))
  |(go_at_call 53;go_loud (refine (ee.pick 2).mono ?_;rw [<-bp.out];rintro r w3 ⟨rfl,hd⟩;have ax:Hid (DL w w3 g v l (k1+1+1) _ _ u):=hd;clear hd)))
 go_cut [6] (λs6 W3=>s6=Aa O (SZ:Int)/\W3=w3)
 case first=>
  as_aux_lemma=>
  by_cases c2:p2=0
  all_goals (
   go_wp2_with fail
   go_meet;refine ⟨?_,rfl⟩;rw [ba.out];simp [c2])
 case rest=>
  as_aux_lemma=>
  obtain ⟨rfl,an⟩:=hcut;obtain rfl:=an.symm;clear an;have ey:w3.cell? ⟨w1.heap.size,1,none⟩=some (Aa O V):=(ax.dr.blk 1).cell 1;have f51:=(ax.dr.blk 1).free 1;have da:V.tmod ((SZ:Int)+1)=V%((SZ:Int)+1):=Int.tmod_eq_emod_of_nonneg cf.1;have al:¬((SZ:Int)+1=0):=by omega
  have cq:3<=SZ/\SZ<=7:=by rw [ba.out];split <;> omega
  have dk:IntKind.i64.wrap (V%((SZ:Int)+1))=V%((SZ:Int)+1):=by
   have h1:=Int.emod_nonneg V al;have h2:=Int.emod_lt_of_pos V (show 0<(SZ:Int)+1 by omega);rw [Bl];omega
  obtain ⟨V2,bn⟩:=exq (V%((SZ:Int)+1));have dp:=Z0 bn;have bo:=Z0 (ax.set5 V2);rw [<-bn] at da dk;clear bn;obtain ⟨c0,au⟩:=exq (Z4 l (k1+1+1) 12);obtain ⟨bd,ao⟩:=exq (Z4 l (k1+1+1+1) 10);have a3:=Z0 au;have a7:=Z0 ao;have em:c0<12:=by rw [au];exact Z6 _ _ _
  have ej:bd<10:=by rw [ao];exact Z6 _ _ _
  clear au ao;obtain ⟨EL,bm⟩:=exq (if bd=0 then 1000 else 2+c0);have cx:=Z0 bm;have bv:2<=EL/\EL<=1000:=by rw [bm];split <;> omega
  clear bm;have g2:=Z0 trivial
  go_upto_if 42 with (first
   |(go_at_call 53;clear g2;go_loud (refine (bo.pick 12).mono ?_;rw [<-a3.out];rintro r w5 ⟨rfl,hd⟩;have ch:Hid (DL w w5 g v l (k1+1+1+1) _ _ u):=hd;clear hd))
   |(go_at_call 53;go_loud (refine (ch.pick 10).mono ?_;rw [<-a7.out];rintro r w6 ⟨rfl,hd⟩;have bq:Hid (DL w w6 g v l (k1+1+1+1+1) _ _ u):=hd;clear hd)))
  go_cut [7] (λs7 W3=>s7=Aa O (EL:Int)/\W3=w6)
  case first=>
   as_aux_lemma=>
   by_cases db:bd=0
   all_goals (
    go_wp2_with fail
    go_meet;refine ⟨?_,rfl⟩;rw [cx.out];simp [db])
  case rest=>
   as_aux_lemma=>
   obtain ⟨rfl,an⟩:=hcut;obtain rfl:=an.symm;clear an;obtain ⟨pI,bc⟩:=exq (Z4 l (k1+1+1+1+1) SZ);have cr:=Z0 bc;have bI:pI<SZ:=by rw [bc];exact Z6 _ _ _
   clear bc
   go_upto_region 10 with (go_at_call 53;go_loud (refine (bq.pick SZ).mono ?_;rw [<-cr.out];rintro r w7 ⟨rfl,hd⟩;have ad:=Z0 hd;clear hd))
   have ag:Hid (w.heap.size<=w7.heap.size/\w1.heap.size<w7.heap.size/\w.heap.size<w7.heap.size):=⟨ad.dr.size,ad.dr.lt 1 rfl,ad.dr.lt 0 rfl⟩;have dc:Hid (k1+1+1+1+1+1<=700000000):=by unfold Hid;omega
   obtain ⟨k5,ay⟩:=exq (k1+1+1+1+1+1);have cn:=Z0 ay;replace ad:Hid (DL w w7 g v l k5 [(w.heap.size,Z32,36),(w1.heap.size,stC T V2 ea u.length ec,104)] (I ea u.length ec) u):=by rw [ay];exact ad
   have ei:k5<=700000000:=by rw [ay];exact dc
   clear ay bq ch bo ax;obtain ⟨pB,bg⟩:=exq (Z4 l k5 EL);have b8:=Z0 bg;have bB:pB<EL:=by rw [bg];exact Z6 _ _ _
   clear bg;have ez:=Z48 EL;obtain ⟨k6,c4⟩:=exq (k5+Zf EL);have c3:=Z0 c4;have eh:k6<=800000000:=by omega
   clear c4;obtain ⟨dv,bb⟩:=exq (Yo l k6);have b7:=Z0 bb;have eo:0<=dv/\dv<=255:=by rw [bb];exact ad.dr.src.byte k6
   clear bb;obtain ⟨N0,aw⟩:=exq (newN (1+(pI:Int)) SZ EL (1+(pB:Int)) T V2 dv u);have dw:=Z0 aw
   have a8:Hid (∀ z,Es z (I ea u.length ec) u->Calls Tryz.prog 63 #[Aa O (1+(pI:Int)),Aa O (SZ:Int),Aa O (EL:Int),Aa O (1+(pB:Int)),Aw (stC T V2 ea u.length ec),Aa O dv] z λe w'=>∃ b c,e=.returned (Aw (ndC N0 (rvZ b N0.log.length c)))/\Zh w' z.heap.size (I b N0.log.length c) N0.log/\Below z.heap.size z w'):=λz f=>by
    rw [aw];exact newNode_d _ _ _ _ _ _ _ ea ec u z f (by omega) (by omega) (by omega)
   have cy:Hid (N0.gr = []/\N0.nx = []/\N0.mt = []/\N0.se = []/\N0.st = []):=by rw [aw];exact newN_nil _ _ _ _ _ _ _ _
   clear aw
   have HF:Hid (∀ x∈[(w.heap.size,Z32,36),(w1.heap.size,stC T V2 ea u.length ec,104)],x.1<w7.heap.size):=by
    intro x hx;have:=ag.out;simp only [List.mem_cons,List.not_mem_nil,or_false] at hx;rcases hx with rfl | rfl
    ·exact this.2.2
    ·exact this.2.1
   go_cut [9] (λs9 W=>∃ b9 b c,s9=Ae (some ⟨b9,0,none⟩)/\NS w W g v l (k6+1) w.heap.size w1.heap.size b9 (stC T V2 ea u.length ec) N0 (rvZ b N0.log.length c))
   case first=>
    as_aux_lemma=>
    refine wp_apart (λa0=>a0.tmps.size=297/\a0.eval (.tmp 0)=Ae (some ⟨g,0,none⟩)/\a0.eval (.tmp 5)=Ae (some ⟨w1.heap.size,0,none⟩)/\a0.eval (.tmp 6)=Aa O (SZ:Int)/\a0.eval (.tmp 7)=Aa O (EL:Int)/\a0.eval (.tmp 8)=Aa O (1+(pI:Int))) (λa0 aF w'=>∃ x:Nat->Value,aF=frame a0 [47,48,49,50,51,52,53,54,55,56,57,9] x/\∃ p b c,x 9=Ae (some ⟨p,0,none⟩)/\NS w w' g v l (k6+1) w.heap.size w1.heap.size p (stC T V2 ea u.length ec) N0 (rvZ b N0.log.length c)) ?_ ⟨rfl,rfl,rfl,rfl,rfl,rfl⟩ ?_
    ·rintro a0 ⟨al,e0,e5,e6,e7,e8⟩
     rename_i JJ KK hj hm;clear hm hj KK JJ;refine Z2w (by kernel_rfl) (λL aF w'=>∃ x:Nat->Value,aF=frame a0 [47,48,49,50,51,52,53,54,55,56,57,9] x/\(St3 (λW=>DL w W g v l k5 [(w.heap.size,Z32,36),(w1.heap.size,stC T V2 ea u.length ec,104)] (I ea u.length ec) u/\w7.heap.size<=W.heap.size) (λW=>DL w W g v l k6 [(w.heap.size,Z32,36),(w1.heap.size,stC T V2 ea u.length ec,104)] (I ea u.length ec) u/\w7.heap.size<=W.heap.size) (λW=>DL w W g v l (k6+1) [(w.heap.size,Z32,36),(w1.heap.size,stC T V2 ea u.length ec,104)] (I ea u.length ec) u/\w7.heap.size<=W.heap.size)) (L.getD 5 false) (L.getD 9 false) w'/\(L.getD 0 false=true->x 47=Aa O (1+(pI:Int)))/\(L.getD 1 false=true->x 48=Aa O (SZ:Int))/\(L.getD 2 false=true->x 49=Aa O (EL:Int))/\(L.getD 3 false=true->x 50=Ae (some ⟨g,0,none⟩))/\(L.getD 4 false=true->x 51=Aa O (EL:Int))/\(L.getD 5 false=true->x 52=Aa O (pB:Int))/\(L.getD 6 false=true->x 53=Aa O (1+(pB:Int)))/\(L.getD 7 false=true->x 54=Aw (stC T V2 ea u.length ec))/\(L.getD 8 false=true->x 55=Ae (some ⟨g,0,none⟩))/\(L.getD 9 false=true->x 56=Aa O dv)/\(L.getD 10 false=true->∃ b c,x 57=Aw (ndC N0 (rvZ b N0.log.length c))/\Zh w' w.heap.size (I b N0.log.length c) N0.log)/\(L.getD 11 false=true->∃ p C,x 9=Ae (some ⟨p,0,none⟩)/\w7.heap.size<=p/\Blk w' p C 36/\C.size=18/\(L.getD 12 false=true->∃ b c,C=ndC N0 (rvZ b N0.log.length c)/\Zh w' w.heap.size (I b N0.log.length c) N0.log))/\(L.getD 12 false=true->L.getD 11 false=true)) ?_ ?_ ?_
     ·refine ⟨_,frame_self a0 [47,48,49,50,51,52,53,54,55,56,57,9],?_,λh=>(Z0g h).elim,λh=>(Z0g h).elim,λh=>(Z0g h).elim,λh=>(Z0g h).elim,λh=>(Z0g h).elim,λh=>(Z0g h).elim,λh=>(Z0g h).elim,λh=>(Z0g h).elim,λh=>(Z0g h).elim,λh=>(Z0g h).elim,λh=>(Z0g h).elim,λh=>(Z0g h).elim,λh=>(Z0g h).elim⟩
      rw [bit0,bit0];exact ⟨ad.below (Below.refl _ _).drew,Nat.le_refl _⟩
     ·rintro L a w' i ai hi ⟨x,rfl,hS,h0,h1,h2,h3,h4,h5,h6,h7,h8,s,ac,y,ab⟩
      have ae:∀ j,j<13->j<L.size:=λj hj=>by rw [ai];exact hj
      have af:∀ j,j<297->j<a0.tmps.size:=λj hj=>by rw [al];exact hj
      have er:i<13:=(Jn ai hi).1;have fb:L.size=13:=ai;have dg:=St3.any (P:=λW=>Blk W w1.heap.size (stC T V2 ea u.length ec) 104) (λ_ h=>h.1.dr.blk 1 rfl) (λ_ h=>h.1.dr.blk 1 rfl) (λ_ h=>h.1.dr.blk 1 rfl) hS;have dy:=St3.any (P:=λW=>Zh W w.heap.size (I ea u.length ec) u) (λ_ h=>h.1.log) (λ_ h=>h.1.log) (λ_ h=>h.1.log) hS;have dh:=St3.any (P:=λW=>w.heap.size<=W.heap.size) (λ_ h=>h.1.dr.size) (λ_ h=>h.1.dr.size) (λ_ h=>h.1.dr.size) hS;have ed:=St3.any (P:=λW=>w7.heap.size<=W.heap.size) (λ_ h=>h.2) (λ_ h=>h.2) (λ_ h=>h.2) hS;rcases (show i=0∨i=1∨i=2∨i=3∨i=4∨i=5∨i=6∨i=7∨i=8∨i=9∨i=10∨i=11∨i=12 by omega) with rfl | rfl | rfl | rfl | rfl | rfl | rfl | rfl | rfl | rfl | rfl | rfl | rfl
      ·skip
       have f:=ae 0 (by decide);refine Zs rfl rfl (Z0s (.tmp 8) (Or.inl rfl) ?_);rw [Yv _ _ _ 8 rfl,e8];exact ⟨_,Xs _ _ _ 47 _,(by rw [Z25 f,Z25 f];exact hS),λh=>Jj _ _ _,λh=>ke2 h1 f h,λh=>ke2 h2 f h,λh=>ke2 h3 f h,λh=>ke2 h4 f h,λh=>ke2 h5 f h,λh=>ke2 h6 f h,λh=>ke2 h7 f h,λh=>ke2 h8 f h,λh=>ke2 s f h,λh=>by rw [Xm _ _ _ _];exact (ac (kb h f)),λh=>by rw [Xm _ _ _ _];exact (let ⟨p,C,q1,q2,q3,q4,q5⟩:=(y (kb h f));⟨p,C,q1,q2,q3,q4,λs=>q5 (X7 s f)⟩),λh=>Xl (ab (kb h f)) f⟩
      ·skip
       have f:=ae 1 (by decide);refine Zs rfl rfl (Z0s (.tmp 6) (Or.inl rfl) ?_);rw [Yv _ _ _ 6 rfl,e6];exact ⟨_,Xs _ _ _ 48 _,(by rw [Z25 f,Z25 f];exact hS),λh=>ke2 h0 f h,λh=>Jj _ _ _,λh=>ke2 h2 f h,λh=>ke2 h3 f h,λh=>ke2 h4 f h,λh=>ke2 h5 f h,λh=>ke2 h6 f h,λh=>ke2 h7 f h,λh=>ke2 h8 f h,λh=>ke2 s f h,λh=>by rw [Xm _ _ _ _];exact (ac (kb h f)),λh=>by rw [Xm _ _ _ _];exact (let ⟨p,C,q1,q2,q3,q4,q5⟩:=(y (kb h f));⟨p,C,q1,q2,q3,q4,λs=>q5 (X7 s f)⟩),λh=>Xl (ab (kb h f)) f⟩
      ·skip
       have f:=ae 2 (by decide);refine Zs rfl rfl (Z0s (.tmp 7) (Or.inl rfl) ?_);rw [Yv _ _ _ 7 rfl,e7];exact ⟨_,Xs _ _ _ 49 _,(by rw [Z25 f,Z25 f];exact hS),λh=>ke2 h0 f h,λh=>ke2 h1 f h,λh=>Jj _ _ _,λh=>ke2 h3 f h,λh=>ke2 h4 f h,λh=>ke2 h5 f h,λh=>ke2 h6 f h,λh=>ke2 h7 f h,λh=>ke2 h8 f h,λh=>ke2 s f h,λh=>by rw [Xm _ _ _ _];exact (ac (kb h f)),λh=>by rw [Xm _ _ _ _];exact (let ⟨p,C,q1,q2,q3,q4,q5⟩:=(y (kb h f));⟨p,C,q1,q2,q3,q4,λs=>q5 (X7 s f)⟩),λh=>Xl (ab (kb h f)) f⟩
      ·skip
       have f:=ae 3 (by decide);refine Zs rfl rfl (Z0s (.tmp 0) (Or.inl rfl) ?_);rw [Yv _ _ _ 0 rfl,e0];exact ⟨_,Xs _ _ _ 50 _,(by rw [Z25 f,Z25 f];exact hS),λh=>ke2 h0 f h,λh=>ke2 h1 f h,λh=>ke2 h2 f h,λh=>Jj _ _ _,λh=>ke2 h4 f h,λh=>ke2 h5 f h,λh=>ke2 h6 f h,λh=>ke2 h7 f h,λh=>ke2 h8 f h,λh=>ke2 s f h,λh=>by rw [Xm _ _ _ _];exact (ac (kb h f)),λh=>by rw [Xm _ _ _ _];exact (let ⟨p,C,q1,q2,q3,q4,q5⟩:=(y (kb h f));⟨p,C,q1,q2,q3,q4,λs=>q5 (X7 s f)⟩),λh=>Xl (ab (kb h f)) f⟩
      ·skip
       have f:=ae 4 (by decide);refine Zs rfl rfl (Z0s (.tmp 7) (Or.inl rfl) ?_);rw [Yv _ _ _ 7 rfl,e7];exact ⟨_,Xs _ _ _ 51 _,(by rw [Z25 f,Z25 f];exact hS),λh=>ke2 h0 f h,λh=>ke2 h1 f h,λh=>ke2 h2 f h,λh=>ke2 h3 f h,λh=>Jj _ _ _,λh=>ke2 h5 f h,λh=>ke2 h6 f h,λh=>ke2 h7 f h,λh=>ke2 h8 f h,λh=>ke2 s f h,λh=>by rw [Xm _ _ _ _];exact (ac (kb h f)),λh=>by rw [Xm _ _ _ _];exact (let ⟨p,C,q1,q2,q3,q4,q5⟩:=(y (kb h f));⟨p,C,q1,q2,q3,q4,λs=>q5 (X7 s f)⟩),λh=>Xl (ab (kb h f)) f⟩
      ·have d3:=h3 (Y3 hi)
       have d4:=h4 (Y3 hi);have f:=ae 5 (by decide);have bw:=(Ym a0 [47,48,49,50,51,52,53,54,55,56,57,9] x 50 rfl (af 50 (by decide))).trans d3;have c8:=(Ym a0 [47,48,49,50,51,52,53,54,55,56,57,9] x 51 rfl (af 51 (by decide))).trans d4;refine Zs rfl rfl (Yg (N:=53) rfl (λ_ _=>by go_simp) #[Ae (some ⟨g,0,none⟩),Aa O (EL:Int)] (by simp only [Bm,Bq,Bu,bw,c8]) ?_);have dj:L.getD 5 false=false:=by have s:=(Jn ai hi).2;rw [Array.getD_eq_getD_getElem?,s];rfl
       rw [dj] at hS;obtain ⟨bk,bx⟩:=hS.fst;refine Calls.mono (bx.1.pickG EL) ?_;rw [<-b8.out];rintro e w2 ⟨rfl,hd,ah⟩;refine ⟨_,rfl,?_⟩;exact ⟨_,Xs _ _ _ 52 _,(by rw [Z2p f,Z25 f,bk];exact ⟨by rw [c3.out];exact hd,Ap bx.2 ah.size⟩),λh=>ke2 h0 f h,λh=>ke2 h1 f h,λh=>ke2 h2 f h,λh=>ke2 h3 f h,λh=>ke2 h4 f h,λh=>Jj _ _ _,λh=>ke2 h6 f h,λh=>ke2 h7 f h,λh=>ke2 h8 f h,λh=>ke2 s f h,λh=>by rw [Xm _ _ _ _];exact (let ⟨b,c,r1,r2⟩:=(ac (kb h f));⟨b,c,r1,r2.block λq e=>ah.block q (Aq r2.2 q e).2 (λe2=>by injection e2 with e2;have:=(Aq r2.2 q e).1;have:=ad.dr.gl;omega)⟩),λh=>by rw [Xm _ _ _ _];exact (let ⟨p,C,q1,q2,q3,q4,q5⟩:=(y (kb h f));⟨p,C,q1,q2,q3.grown ah (by have:=ag.out;have:=ad.dr.gl;omega),q4,λs=>(let ⟨b,c,r1,r2⟩:=q5 (X7 s f);⟨b,c,r1,r2.block λq e=>ah.block q (Aq r2.2 q e).2 (λe2=>by injection e2 with e2;have:=(Aq r2.2 q e).1;have:=ad.dr.gl;omega)⟩)⟩),λh=>Xl (ab (kb h f)) f⟩
      ·have d5:=h5 (Y3 hi)
       have f:=ae 6 (by decide);have cz:(frame a0 [47,48,49,50,51,52,53,54,55,56,57,9] x).tmps[52]?.getD undef=Aa O (pB:Int):=by have h:=(Ym a0 [47,48,49,50,51,52,53,54,55,56,57,9] x 52 rfl (af 52 (by decide))).trans d5;simpa [Act.eval] using h
       refine Zs rfl rfl (Z0z (v:=Aa O (1+(pB:Int))) ?_ ?_)
       ·obtain ⟨aa,cw⟩:=exq (frame a0 [47,48,49,50,51,52,53,54,55,56,57,9] x)
        rw [<-cw] at cz ⊢;clear cw;go_simp;rw [Bl];omega
       exact ⟨_,Xs _ _ _ 53 _,(by rw [Z25 f,Z25 f];exact hS),λh=>ke2 h0 f h,λh=>ke2 h1 f h,λh=>ke2 h2 f h,λh=>ke2 h3 f h,λh=>ke2 h4 f h,λh=>ke2 h5 f h,λh=>Jj _ _ _,λh=>ke2 h7 f h,λh=>ke2 h8 f h,λh=>ke2 s f h,λh=>by rw [Xm _ _ _ _];exact (ac (kb h f)),λh=>by rw [Xm _ _ _ _];exact (let ⟨p,C,q1,q2,q3,q4,q5⟩:=(y (kb h f));⟨p,C,q1,q2,q3,q4,λs=>q5 (X7 s f)⟩),λh=>Xl (ab (kb h f)) f⟩
      ·skip
       have f:=ae 7 (by decide);refine Zs rfl rfl (Z71 104 (.tmp 5) rfl (w1.heap.size) ((Yv a0 [47,48,49,50,51,52,53,54,55,56,57,9] x 5 rfl).trans e5) dg underlying104 rfl infoStb rfl ?_);exact ⟨_,Xs _ _ _ 54 _,(by rw [Z25 f,Z25 f];exact hS),λh=>ke2 h0 f h,λh=>ke2 h1 f h,λh=>ke2 h2 f h,λh=>ke2 h3 f h,λh=>ke2 h4 f h,λh=>ke2 h5 f h,λh=>ke2 h6 f h,λh=>Jj _ _ _,λh=>ke2 h8 f h,λh=>ke2 s f h,λh=>by rw [Xm _ _ _ _];exact (ac (kb h f)),λh=>by rw [Xm _ _ _ _];exact (let ⟨p,C,q1,q2,q3,q4,q5⟩:=(y (kb h f));⟨p,C,q1,q2,q3,q4,λs=>q5 (X7 s f)⟩),λh=>Xl (ab (kb h f)) f⟩
      ·skip
       have f:=ae 8 (by decide);refine Zs rfl rfl (Z0s (.tmp 0) (Or.inl rfl) ?_);rw [Yv _ _ _ 0 rfl,e0];exact ⟨_,Xs _ _ _ 55 _,(by rw [Z25 f,Z25 f];exact hS),λh=>ke2 h0 f h,λh=>ke2 h1 f h,λh=>ke2 h2 f h,λh=>ke2 h3 f h,λh=>ke2 h4 f h,λh=>ke2 h5 f h,λh=>ke2 h6 f h,λh=>ke2 h7 f h,λh=>Jj _ _ _,λh=>ke2 s f h,λh=>by rw [Xm _ _ _ _];exact (ac (kb h f)),λh=>by rw [Xm _ _ _ _];exact (let ⟨p,C,q1,q2,q3,q4,q5⟩:=(y (kb h f));⟨p,C,q1,q2,q3,q4,λs=>q5 (X7 s f)⟩),λh=>Xl (ab (kb h f)) f⟩
      ·have d8:=h8 (Y3 hi)
       have f:=ae 9 (by decide);have c5:=(Ym a0 [47,48,49,50,51,52,53,54,55,56,57,9] x 55 rfl (af 55 (by decide))).trans d8;refine Zs rfl rfl (Yg (N:=93) rfl (λ_ _=>by go_simp) #[Ae (some ⟨g,0,none⟩)] (by simp only [Bm,Bq,Bu,c5]) ?_);have bk:L.getD 9 false=false:=by have s:=(Jn ai hi).2;rw [Array.getD_eq_getD_getElem?,s];rfl
       have cj:L.getD 5 false=true:=Y3 hi;rw [cj,bk] at hS;refine Calls.mono (DL.nextG (k:=k6) hS.1 hL (by omega)) ?_;rw [<-b7.out];rintro e w2 ⟨rfl,hd,ah⟩;refine ⟨_,rfl,?_⟩;exact ⟨_,Xs _ _ _ 56 _,(by rw [Z25 f,cj,Z2p f];exact ⟨hd,Ap hS.2 ah.size⟩),λh=>ke2 h0 f h,λh=>ke2 h1 f h,λh=>ke2 h2 f h,λh=>ke2 h3 f h,λh=>ke2 h4 f h,λh=>ke2 h5 f h,λh=>ke2 h6 f h,λh=>ke2 h7 f h,λh=>ke2 h8 f h,λh=>Jj _ _ _,λh=>by rw [Xm _ _ _ _];exact (let ⟨b,c,r1,r2⟩:=(ac (kb h f));⟨b,c,r1,r2.block λq e=>ah.block q (Aq r2.2 q e).2 (λe2=>by injection e2 with e2;have:=(Aq r2.2 q e).1;have:=ad.dr.gl;omega)⟩),λh=>by rw [Xm _ _ _ _];exact (let ⟨p,C,q1,q2,q3,q4,q5⟩:=(y (kb h f));⟨p,C,q1,q2,q3.grown ah (by have:=ag.out;have:=ad.dr.gl;omega),q4,λs=>(let ⟨b,c,r1,r2⟩:=q5 (X7 s f);⟨b,c,r1,r2.block λq e=>ah.block q (Aq r2.2 q e).2 (λe2=>by injection e2 with e2;have:=(Aq r2.2 q e).1;have:=ad.dr.gl;omega)⟩)⟩),λh=>Xl (ab (kb h f)) f⟩
      ·have d0:=h0 (Y3 hi)
       have d1:=h1 (Y3 hi);have d2:=h2 (Y3 hi);have d6:=h6 (Y3 hi);have d7:=h7 (Y3 hi);have d9:=s (Y3 hi);have f:=ae 10 (by decide);have c1:=(Ym a0 [47,48,49,50,51,52,53,54,55,56,57,9] x 47 rfl (af 47 (by decide))).trans d0;have cv:=(Ym a0 [47,48,49,50,51,52,53,54,55,56,57,9] x 48 rfl (af 48 (by decide))).trans d1;have c6:=(Ym a0 [47,48,49,50,51,52,53,54,55,56,57,9] x 49 rfl (af 49 (by decide))).trans d2;have ca:=(Ym a0 [47,48,49,50,51,52,53,54,55,56,57,9] x 53 rfl (af 53 (by decide))).trans d6;have br:=(Ym a0 [47,48,49,50,51,52,53,54,55,56,57,9] x 54 rfl (af 54 (by decide))).trans d7;have ce:=(Ym a0 [47,48,49,50,51,52,53,54,55,56,57,9] x 56 rfl (af 56 (by decide))).trans d9;refine Zs rfl rfl (Yg (N:=63) rfl (λ_ _=>by go_simp) #[Aa O (1+(pI:Int)),Aa O (SZ:Int),Aa O (EL:Int),Aa O (1+(pB:Int)),Aw (stC T V2 ea u.length ec),Aa O dv] (by simp only [Bm,Bq,Bu,c1,cv,c6,ca,br,ce]) ?_);refine Calls.mono (a8 w' (dy.es (by unfold maxLen;omega))) ?_;rintro e w2 ⟨b,c,rfl,hO,hb⟩;refine ⟨_,rfl,?_⟩;exact ⟨_,Xs _ _ _ 57 _,(by rw [Z25 f,Z25 f];exact St3.tq (λh=>⟨h.1.below hb,Ap h.2 hb.size⟩) (λh=>⟨h.1.below hb,Ap h.2 hb.size⟩) (λh=>⟨h.1.below hb,Ap h.2 hb.size⟩) hS),λh=>ke2 h0 f h,λh=>ke2 h1 f h,λh=>ke2 h2 f h,λh=>ke2 h3 f h,λh=>ke2 h4 f h,λh=>ke2 h5 f h,λh=>ke2 h6 f h,λh=>ke2 h7 f h,λh=>ke2 h8 f h,λh=>ke2 s f h,λh=>⟨b,c,Jj _ _ _,hO.le dh⟩,λh=>by rw [Xm _ _ _ _];exact (let ⟨p,C,q1,q2,q3,q4,q5⟩:=(y (kb h f));⟨p,C,q1,q2,q3.below hb q3.lt,q4,λs=>(let ⟨b,c,r1,r2⟩:=q5 (X7 s f);⟨b,c,r1,r2.below hb⟩)⟩),λh=>Xl (ab (kb h f)) f⟩
      ·skip
       have f:=ae 11 (by decide);refine Zs rfl rfl (Z74 36 zNod rfl (λ_=>by go_simp) ?_);have hb:Below w'.heap.size w' (w'.alloc (.cells zNod 36)):=(Below.refl _ _).alloc (Nat.le_refl _) _;exact ⟨_,Xs _ _ _ 9 _,(by rw [Z25 f,Z25 f];exact St3.tq (λh=>⟨h.1.below hb,Ap h.2 hb.size⟩) (λh=>⟨h.1.below hb,Ap h.2 hb.size⟩) (λh=>⟨h.1.below hb,Ap h.2 hb.size⟩) hS),λh=>ke2 h0 f h,λh=>ke2 h1 f h,λh=>ke2 h2 f h,λh=>ke2 h3 f h,λh=>ke2 h4 f h,λh=>ke2 h5 f h,λh=>ke2 h6 f h,λh=>ke2 h7 f h,λh=>ke2 h8 f h,λh=>ke2 s f h,λh=>by rw [Xm _ _ _ _];exact (let ⟨b,c,r1,r2⟩:=(ac (kb h f));⟨b,c,r1,r2.below hb⟩),λh=>⟨_,_,Jj _ _ _,ed,Blk.new _ _ _,rfl,λs=>(readyBit ai hi (ab (X7 s f))).elim⟩,λh=>Xl (ab (kb h f)) f⟩
      ·have dn:=ac (Y3 hi)
       have dt:=y (Y3 hi);have f:=ae 12 (by decide);obtain ⟨p,C,ep,hp,hP,hC,hR⟩:=dt;obtain ⟨b,c,ef,hO⟩:=dn;have eb:=(Ym a0 [47,48,49,50,51,52,53,54,55,56,57,9] x 9 rfl (af 9 (by decide))).trans ep;have di:=(Ym a0 [47,48,49,50,51,52,53,54,55,56,57,9] x 57 rfl (af 57 (by decide))).trans ef;refine Zs rfl rfl (Z0a 36 (.tmp 9) (.tmp 57) rfl (p) eb di hP Z3j rfl hC (by simp [ndC,rvZ,Value.oneCell']) ?_);exact ⟨_,rfl,(by rw [Z25 f,Z25 f];exact St3.tq (λh=>⟨h.1.rowP hP ag.1 HF hp _,by rw [Z5p];exact h.2⟩) (λh=>⟨h.1.rowP hP ag.1 HF hp _,by rw [Z5p];exact h.2⟩) (λh=>⟨h.1.rowP hP ag.1 HF hp _,by rw [Z5p];exact h.2⟩) hS),λh=>ku2 h0 f h,λh=>ku2 h1 f h,λh=>ku2 h2 f h,λh=>ku2 h3 f h,λh=>ku2 h4 f h,λh=>ku2 h5 f h,λh=>ku2 h6 f h,λh=>ku2 h7 f h,λh=>ku2 h8 f h,λh=>ku2 s f h,λh=>(let ⟨b,c,r1,r2⟩:=(ac (kb h f));⟨b,c,r1,r2.block λq e=>setRow_other _ _ _ _ (Y5 r2 hP (by decide) q e)⟩),λh=>⟨p,_,ep,hp,hP.row _,rfl,λ_=>⟨b,c,rfl,hO.block λq e=>setRow_other _ _ _ _ (Y5 hO hP (by decide) q e)⟩⟩,λh=>Xl (Y3 hi) f⟩
     ·rintro L a w' ai hr ⟨x,rfl,hS,h0,h1,h2,h3,h4,h5,h6,h7,h8,s,ac,y,ab⟩
      have o:=Z39 ai hr (by decide);replace h0:=h0 (o 0 (by decide));replace h1:=h1 (o 1 (by decide));replace h2:=h2 (o 2 (by decide));replace h3:=h3 (o 3 (by decide));replace h4:=h4 (o 4 (by decide));replace h5:=h5 (o 5 (by decide));replace h6:=h6 (o 6 (by decide));replace h7:=h7 (o 7 (by decide));replace h8:=h8 (o 8 (by decide));replace s:=s (o 9 (by decide));replace ac:=ac (o 10 (by decide));replace y:=y (o 11 (by decide));replace ab:=ab (o 12 (by decide));rw [o 5 (by decide),o 9 (by decide)] at hS;exact ⟨rfl,x,rfl,(let ⟨p,C,ep,hp,hP,hC,hR⟩:=y;let ⟨b,c,e1,hO⟩:=hR (o 12 (by decide));⟨p,b,c,ep,NS.of hS.1.dr (e1 ▸ hP) (Ap ag.1 hp) (Nat.ne_of_lt (Bk ag.2.2 hp)) (Nat.ne_of_lt (Bk ag.2.1 hp)) hO cy⟩)⟩
    ·rintro a' w' ⟨x,rfl,b6⟩
     obtain ⟨p,b,c,e9,aj⟩:=b6;have eg:=Z0 aj;clear aj;simp only [frame,List.zipIdx_cons,List.zipIdx_nil,Bq,Bu,List.contains_cons,List.contains_nil,Nat.reduceBEq,Nat.reduceAdd,Bool.or_false,Bool.false_or,Bool.or_true,Bool.true_or,Bool.false_eq_true,if_false,if_true,e9]
     go_wp2_with fail
     go_meet;exact ⟨p,b,c,rfl,eg.out⟩
   case rest=>
    as_aux_lemma=>
    obtain ⟨b9,b,c,rfl,aj⟩:=hcut;obtain ⟨w8,bu⟩:=exq (wc);rw [<-bu] at aj;subst bu;obtain ⟨X,hX⟩:=exq (rvZ b N0.log.length c);rw [<-hX] at aj;have ff:=Z0 hX;clear hX;have dx:=Z0 aj;clear aj ad a8 HF ag;obtain ⟨ar,am⟩:=exq (Z4 l (k6+1) 40);obtain ⟨bh,ak⟩:=exq (Z4 l (k6+1+1) 20);obtain ⟨c7,aq⟩:=exq (Z4 l (k6+1+1+1) 2);have a9:=Z0 am;have a6:=Z0 ak;have a4:=Z0 aq;have fd:ar<40:=by rw [am];exact Z6 _ _ _
    have ew:bh<20:=by rw [ak];exact Z6 _ _ _
    have eu:c7<2:=by rw [aq];exact Z6 _ _ _
    clear am ak aq;obtain ⟨D1,bj⟩:=exq (Z0v l ⟨N0,k6+1⟩)
    have bz:Hid (D1=if bh=0 then ⟨{ N0 with nw:=1099511627776-(c7:Int) },k6+1+1+1+1⟩ else ⟨{ N0 with nw:=(ar:Int) },k6+1+1+1⟩):=by
     unfold Hid;rw [bj,a9.out,a6.out,a4.out];rfl
    have bi:=Z0 bj;clear bj;have g3:=Z0 trivial
    go_upto_if 63 with (first
     |(go_at_call 53;clear g3;go_loud (refine (dx.pick1 40).mono ?_;rw [<-a9.out];rintro r w9 ⟨rfl,hd⟩;have fa:=Z0 hd;have c9:w9.cell? ⟨b9,9,none⟩=some (Aa O N0.nw):=hd.nodeB.cell 9;have f9:=hd.nodeB.free 9;have cc:Hid (NS w (w9.setCell ⟨b9,9,none⟩ (Aa O (ar:Int))) g v l (k6+1+1) w.heap.size w1.heap.size b9 (stC T V2 ea u.length ec) { N0 with nw:=(ar:Int) } X):=hd.set 9 (by omega) _;clear hd))
     |(go_at_call 53;go_loud (refine (cc.pick1 20).mono ?_;rw [<-a6.out];rintro r ek ⟨rfl,hd⟩;have a5:=Z0 hd;clear hd)))
    go_cut [] (λW=>NS w W g v l D1.k w.heap.size w1.heap.size b9 (stC T V2 ea u.length ec) D1.n X)
    case first=>
     as_aux_lemma=>
     by_cases ct:bh=0
     ·have HE:=Z0 (bz.trans (if_pos ct))
      go_wp2_with (go_at_call 53;go_loud (refine (a5.pick1 2).mono ?_;rw [<-a4.out];rintro r ds ⟨rfl,hd⟩;have cu:=Z0 hd;have et:ds.cell? ⟨b9,9,none⟩=some (Aa O (ar:Int)):=hd.nodeB.cell 9;have eq:=hd.nodeB.free 9;clear hd))
      go_meet;rw [HE.out];exact cu.set 9 (by omega) _
     ·have HE:=Z0 (bz.trans (if_neg ct))
      go_wp2_with fail
      go_meet;rw [HE.out];exact a5
    case rest=>
     as_aux_lemma=>
     have hI:((1+pI:Nat):Int)=1+(pI:Int):=by push_cast;rfl
     have hc:DC.Ok ⟨w,g,v,l,w.heap.size,w1.heap.size,b9,T,V2,ea,u.length,ec,SZ,EL,1+pI⟩:=⟨hL,cq,bv,by dsimp only;omega⟩
     have hh:dnH l k1=⟨SZ,EL,1+pI,k5⟩:=by
      rw [cn.out,cr.out,ba.out,cx.out,bp.out,cd.out,a7.out,a3.out];rfl
     obtain ⟨n1,n2,n3,n4⟩:=HN.out
     have h0:dn0 l k n=⟨N0,k6+1⟩:=by
      rw [dw.out,b7.out,b8.out,c3.out,dp.out,<-hI,n1,n2,n3];unfold dn0;dsimp only;rw [<-n4,hh]
     have dd:R=Z34 l ⟨SZ,EL,1+pI,0⟩ (Z0d l ⟨SZ,EL,1+pI,0⟩ (Z1x l ⟨SZ,EL,1+pI,0⟩ T (Z2v l (Z1v l EL (Z11 l EL D1))))):=by
      rw [<-HR.out,bi.out,<-h0];unfold dnD;dsimp only;rw [<-n4,hh,<-n1,dnLd_k0 l SZ EL (1+pI) k5 0];rfl
     obtain ⟨q1,q2,q3,q4,q5,q6⟩:=dn0_w l k n hn;rw [h0] at q1 q2 q6;obtain ⟨r1,r2,r3,r4,r5,r6⟩:=dnNow_w l q1 q2;rw [<-bi.out] at r1 r2 r6;have be:=r1.ck;simp only [Xr,Bool.and_eq_true,Zj] at be;have co:=r1.vt;simp only [Z1z,Bool.and_eq_true,Zj] at co;have ev:D1.k<=k6+1+3:=by rw [bi.out];unfold Z0v;split <;> (dsimp only;omega)
     have dq:D1.n.log.length<=200:=by rw [r6];exact Ap q6 hn
     rename_i KK hKK;refine hKK _ _ ?_;show (Z1 11 (Z3 Tryz.f51)).wp Tryz.prog _ _ _;refine dnTail (c:=⟨w,g,v,l,w.heap.size,w1.heap.size,b9,T,V2,ea,u.length,ec,SZ,EL,1+pI⟩) (d:=D1) (X:=X) hc (m:=850000000) (by omega) ⟨by omega,⟨be.1.1,be.1.2⟩,dq,⟨co.1.1,by omega⟩⟩ ⟨r1.gr,r1.nx,r1.mt,r1.se,r1.st⟩ ⟨rfl,rfl,rfl,rfl,rfl,rfl,rfl,by show Value.int O (1+(pI:Int))=Value.int O ((1+pI:Nat):Int);rw [hI],rfl⟩ hcut ?_;intro a' w' x' f' s';have s2:RtN ⟨w,g,v,l,w.heap.size,w1.heap.size,b9,T,V2,ea,u.length,ec,SZ,EL,1+pI⟩ w' R x':=by rw [dd];exact s'
     obtain ⟨t,rfl⟩:=f'.opened;exact bodyPost_ret (Zl results51 rfl (s2.dr.blk 0 rfl) underlying36 rfl Y1 rfl) rfl ⟨x',rfl,s2.own,s2.dr.src,s2.dr.grown⟩
end Go.Proofs.YtmmpoppgabadmaaGreat
