import Derived.Test.YtmmpoppgabadmaaGreatG45
set_option linter.unusedVariables false
set_option linter.unusedSimpArgs false
set_option maxRecDepth 100000
set_option maxHeartbeats 16000000
namespace Go.Proofs.YtmmpoppgabadmaaGreat
open Go.RowKit
theorem dl3 {g b2 b4:Nat}{va:Option Addr}{vc:Nat}{l:List Int}{Q:Exit->Act->World->Prop}{K:Act->World->Prop}{a:Act}{w:World}(hF:SzD a 53)(h0:a.eval (.tmp 0)=.slice va l.length vc)(h2:a.eval (.tmp 2)=.pointer (some ⟨b2,0,none⟩))(h3:a.eval (.tmp 3)=.pointer (some ⟨g,0,none⟩))(h4:a.eval (.tmp 4)=.pointer (some ⟨b4,0,none⟩))(hP:∀ a' w',SzD a' 53->a'.eval (.tmp 0)=.slice va l.length vc->a'.eval (.tmp 2)=.pointer (some ⟨b2,0,none⟩)->a'.eval (.tmp 3)=.pointer (some ⟨g,0,none⟩)->a'.eval (.tmp 4)=.pointer (some ⟨b4,0,none⟩)->a'.eval (.tmp 5)=.int .i64 0->w'=w->K a' w'):(Z2 0 (Z2 3 (Z9 Tryz.f24))).wp Tryz.prog (Exit.then K Q) a w:=by
 obtain ⟨t,rfl⟩:=hF.opened;clear hF;rw [show lst t 0 53 = [t 0,t 1,t 2,t 3,t 4,t 5,t 6,t 7,t 8,t 9,t 10,t 11,t 12,t 13,t 14,t 15,t 16,t 17,t 18,t 19,t 20,t 21,t 22,t 23,t 24,t 25,t 26,t 27,t 28,t 29,t 30,t 31,t 32,t 33,t 34,t 35,t 36,t 37,t 38,t 39,t 40,t 41,t 42,t 43,t 44,t 45,t 46,t 47,t 48,t 49,t 50,t 51,t 52] from rfl];rw [show t 0=.slice va l.length vc from h0];rw [show t 2=.pointer (some ⟨b2,0,none⟩) from h2];rw [show t 3=.pointer (some ⟨g,0,none⟩) from h3];rw [show t 4=.pointer (some ⟨b4,0,none⟩) from h4];clear h0 h2 h3 h4
 conv=>arg 2;whnf
 go_wp2_with fail
 exact hP _ _ ⟨rfl,rfl⟩ rfl rfl rfl rfl rfl rfl
theorem dlTail {W:World}{g b2 b4 k:Nat}{va:Option Addr}{vc:Nat}{l:List Int}{n:Nd}{x:RV}{D:Nat}{Q:Exit->Act->World->Prop}{a:Act}{w:World}(hL:l.length<=1048576)(hlm:l.length<=maxLen)(hk:k<=100000)(hgW:g<W.heap.size)(hb2:b2<W.heap.size)(hne:b2≠g)(hDg:D<=g)(hD2:D<=b2)(hR:Blk W b2 J9 36)(hF:SzD a 53)(h0:a.eval (.tmp 0)=.slice va l.length vc)(h2:a.eval (.tmp 2)=.pointer (some ⟨b2,0,none⟩))(h3:a.eval (.tmp 3)=.pointer (some ⟨g,0,none⟩))(h4:a.eval (.tmp 4)=.pointer (some ⟨b4,0,none⟩))(hS:LdS W g (.slice va l.length vc) l b4 w k n x)(hP:∀ a' w' n' x',SzD a' 53->a'.eval (.tmp 2)=.pointer (some ⟨b2,0,none⟩)->Blk w' b2 (ndC n' x') 36->NdO w' W.heap.size n' x'->Yo n'=0->good n'->Below D W w'->Q .ret a' w'):(Z1 3 (Z9 Tryz.f24)).wp Tryz.prog Q a w:=by
 rw [show Z1 3 (Z9 Tryz.f24)=.seq (Z2 3 (Z9 Tryz.f24)) (.seq (Z2 4 (Z9 Tryz.f24)) (.seq (Z2 5 (Z9 Tryz.f24)) .ret)) from rfl];refine wp_seq_k ?_;intro K1 hK1;rw [show Z2 3 (Z9 Tryz.f24)=.seq (Z2 0 (Z2 3 (Z9 Tryz.f24))) (Z1 1 (Z2 3 (Z9 Tryz.f24))) from rfl];refine wp_seq_k ?_;intro K2 hK2;refine dl3 hF h0 h2 h3 h4 fun a1 w1 f1 g0 g2 g3 g4 g5 e1=>hK2 _ _ ?_
 subst e1;refine dlLoop hL hlm hk hgW f1 g0 g2 g3 g4 g5 hS fun a2 w2 k2 n2 x2 f2 i2 i4 s2=>hK1 _ _ ?_
 have hlo:=s2.lo;have hB2:Below D W w2:=⟨s2.grown.os,s2.grown.tape,s2.grown.output,s2.grown.size,fun q hq=>s2.grown.block q (by omega) (fun e=>by injection e with e;omega)⟩;have hR2:Blk w2 b2 J9 36:=hR.keep (s2.grown.block b2 hb2 (fun e=>by injection e with e;exact hne e));refine wp_seq_k ?_;intro K3 hK3
 have hend:∀ a3 w3 n3 x3,SzD a3 53->a3.eval (.tmp 2)=.pointer (some ⟨b2,0,none⟩)->a3.eval (.tmp 4)=.pointer (some ⟨b4,0,none⟩)->NdS w3 W.heap.size b4 n3 x3->Below W.heap.size w2 w3->Yo n3=0->good n3->K3 a3 w3:=by
  intro a3 w3 n3 x3 f3 j2 j4 s3 b3 ok3 gd3;refine hK3 _ _ ?_;refine wp_seq_k ?_;intro K4 hK4;have hR3:Blk w3 b2 J9 36:=hR2.keep (b3.block b2 hb2);refine dl15 f3 j2 j4 s3 hR3 fun a4 f4 l2=>hK4 _ _ ?_
  refine wp_ret (hP _ _ n3 x3 f4 l2 (hR3.row _) (s3.own.neB hR3 (by decide) (by decide) fun q hq=>setRow_other _ _ _ _ hq) ok3 gd3 ?_);exact X4 (hB2.trans (b3.mono (by omega))) hD2 _
 rw [show Z2 4 (Z9 Tryz.f24)=.seq (Z2 0 (Z2 4 (Z9 Tryz.f24))) (.cond (.tmp 39) (Zo (Z1 1 (Z2 4 (Z9 Tryz.f24)))) .skip) from rfl];refine wp_seq_k ?_;intro K4 hK4;refine dl7 f2 i2 i4 s2.nd.blk fun a3 f3 j2 j4 j39=>hK4 _ _ ?_
 refine wp_cond j39 ?_;by_cases hg:n2.ro=3/\n2.nw<=100000
 ·rw [if_neg (by simp [hg])]
  exact wp_skip (hend _ _ n2 x2 f3 j2 j4 s2.nd (Below.refl _ _) s2.ok hg)
 ·rw [if_pos (by simp only [decide_eq_true_eq];exact hg)]
  refine dlT (B:=W.heap.size) (D:=W.heap.size) f3 j2 j4 s2.nd.blk rfl s2.grown.size hlo s2.grown.size fun a4 w4 x4 f4 k2 k4 s4 b4=>?_
  exact hend _ _ ldZ x4 f4 k2 k4 s4 b4 ldZ_ok ⟨rfl,by decide⟩
theorem dl0 {v:Value}{Q:Exit->Act->World->Prop}{K:Act->World->Prop}{a:Act}{w:World}(hF:SzD a 53)(h0:a.eval (.tmp 0)=v)(hP:∀ a' w',SzD a' 53->a'.eval (.tmp 0)=v->a'.eval (.tmp 2)=.pointer (some ⟨w.heap.size,0,none⟩)->w'=w.alloc (.cells J9 36)->K a' w'):(Z2 0 (Z9 Tryz.f24)).wp Tryz.prog (Exit.then K Q) a w:=by
 obtain ⟨t,rfl⟩:=hF.opened;clear hF;rw [show lst t 0 53 = [t 0,t 1,t 2,t 3,t 4,t 5,t 6,t 7,t 8,t 9,t 10,t 11,t 12,t 13,t 14,t 15,t 16,t 17,t 18,t 19,t 20,t 21,t 22,t 23,t 24,t 25,t 26,t 27,t 28,t 29,t 30,t 31,t 32,t 33,t 34,t 35,t 36,t 37,t 38,t 39,t 40,t 41,t 42,t 43,t 44,t 45,t 46,t 47,t 48,t 49,t 50,t 51,t 52] from rfl];rw [show t 0=v from h0];clear h0
 conv=>arg 2;whnf
 go_wp2_with fail
 exact hP _ _ ⟨rfl,rfl⟩ rfl rfl rfl
theorem dl1 {v e2:Value}(hv:∃ b n c,v=.slice b n c){Q:Exit->Act->World->Prop}{K:Act->World->Prop}{a:Act}{w:World}(hF:SzD a 53)(h0:a.eval (.tmp 0)=v)(h2:a.eval (.tmp 2)=e2)(hP:∀ a' w',SzD a' 53->a'.eval (.tmp 0)=v->a'.eval (.tmp 2)=e2->a'.eval (.tmp 3)=.pointer (some ⟨w.heap.size,0,none⟩)->w'=w.alloc (.cells #[v,.int .i64 0] 91)->K a' w'):(Z2 1 (Z9 Tryz.f24)).wp Tryz.prog (Exit.then K Q) a w:=by
 obtain ⟨t,rfl⟩:=hF.opened;clear hF;rw [show lst t 0 53 = [t 0,t 1,t 2,t 3,t 4,t 5,t 6,t 7,t 8,t 9,t 10,t 11,t 12,t 13,t 14,t 15,t 16,t 17,t 18,t 19,t 20,t 21,t 22,t 23,t 24,t 25,t 26,t 27,t 28,t 29,t 30,t 31,t 32,t 33,t 34,t 35,t 36,t 37,t 38,t 39,t 40,t 41,t 42,t 43,t 44,t 45,t 46,t 47,t 48,t 49,t 50,t 51,t 52] from rfl];rw [show t 0=v from h0];rw [show t 2=e2 from h2];clear h0 h2;obtain ⟨b,n,c,rfl⟩:=hv
 conv=>arg 2;whnf
 go_wp2_with fail
 exact hP _ _ ⟨rfl,rfl⟩ rfl rfl rfl rfl
theorem dl2 {va:Option Addr}{ln vc m N g:Nat}{e2 e3 v:Value}{l:List Int}{D:DnS}(hNe:(3:Int)+(m:Int) / 10=(N:Int))(hm4:m<=400)(hN2:N<=200){Q:Exit->Act->World->Prop}{K:Act->World->Prop}{a:Act}{w:World}(hF:SzD a 53)(HSZ:Hid (∀ u,Calls Tryz.prog 52 #[.slice va ln vc] u fun e w'=>e=.returned (.int .i64 (m:Nat))/\w'=u))(h0:a.eval (.tmp 0)=.slice va ln vc)(h2:a.eval (.tmp 2)=e2)(h3:a.eval (.tmp 3)=e3)(HDN:Hid (Calls Tryz.prog 51 #[e3,.int .i64 (N:Nat)] w fun r w'=>∃ x,r=.returned (.agg (ndC D.n x))/\NdO w' w.heap.size D.n x/\Src w' g v l D.k/\w.grownBy w' (some g)))(hP:∀ a' w' x' w4,SzD a' 53->a'.eval (.tmp 0)=.slice va ln vc->a'.eval (.tmp 2)=e2->a'.eval (.tmp 3)=e3->a'.eval (.tmp 4)=.pointer (some ⟨w4.heap.size,0,none⟩)->w'=w4.alloc (.cells (ndC D.n x') 36)->NdO w4 w.heap.size D.n x'->Src w4 g v l D.k->w.grownBy w4 (some g)->K a' w'):(Z2 2 (Z9 Tryz.f24)).wp Tryz.prog (Exit.then K Q) a w:=by
 obtain ⟨t,rfl⟩:=hF.opened;clear hF;rw [show lst t 0 53 = [t 0,t 1,t 2,t 3,t 4,t 5,t 6,t 7,t 8,t 9,t 10,t 11,t 12,t 13,t 14,t 15,t 16,t 17,t 18,t 19,t 20,t 21,t 22,t 23,t 24,t 25,t 26,t 27,t 28,t 29,t 30,t 31,t 32,t 33,t 34,t 35,t 36,t 37,t 38,t 39,t 40,t 41,t 42,t 43,t 44,t 45,t 46,t 47,t 48,t 49,t 50,t 51,t 52] from rfl];rw [show t 0=.slice va ln vc from h0];rw [show t 2=e2 from h2];rw [show t 3=e3 from h3];clear h0 h2 h3
 conv=>arg 2;whnf
 go_wp2_with (first
  |(go_at_call 52;refine (HSZ.out _).mono ?_;rintro r w1 ⟨rfl,hw1⟩;subst w1)
  |(go_at_call 51;go_loud (refine HDN.out.mono ?_;rintro r w2 ⟨x2,rfl,ho2,hs2,hg2⟩;have HO2:Hid (NdO w2 w.heap.size D.n x2):=ho2;have HS2:Hid (Src w2 g v l D.k):=hs2;have HG2:Hid (w.grownBy w2 (some g)):=hg2;have HC1:Hid ((ndC D.n x2).all (·.oneCell')=true):=ho2.one.1;clear ho2 hs2 hg2))
  |(refine Y6 36 (.tmp 4) _ rfl ?_;go_loud (refine Y1 rfl 36 (.tmp 4) _ rfl (w2.heap.size) rfl rfl rfl Z3k rfl rfl HC1.out ?_)))
 exact hP _ _ x2 w2 ⟨rfl,rfl⟩ rfl rfl rfl rfl rfl HO2.out HS2.out HG2.out
theorem Z30 (va:Option Addr)(vc:Nat)(l:List Int)(w:World)(hv:Bs w (.slice va l.length vc) l)(hL:l.length<=1048576) :
  Calls Tryz.prog 24 #[.slice va l.length vc] w fun r w'=>∃ n x,r=.returned (.agg (ndC n x))/\NdO w' w.heap.size n x/\Yo n=0/\good n/\Below w.heap.size w w':=by
 have hlm:=hv.1;obtain ⟨W,hW⟩:∃ W,W=(w.alloc (.cells J9 36)).alloc (.cells #[.slice va l.length vc,.int .i64 0] 91):=⟨_,rfl⟩;have hzW:W.heap.size=w.heap.size+2:=by rw [hW];simp
 have HSr:Hid (Src W (w.heap.size+1) (.slice va l.length vc) l 0):=by
  have h9:=Src.start (w.alloc (.cells J9 36)) _ l (hv.below ((Below.refl _ _).alloc (Nat.le_refl _) _)) 91;unfold Hid;rw [hW];simpa using h9
 have HBk:Hid (Blk W w.heap.size J9 36):=by unfold Hid;rw [hW];exact (Blk.new _ _ _).alloc _
 have HBl:Hid (Below w.heap.size w W):=by unfold Hid;rw [hW];exact ((Below.refl _ _).alloc (Nat.le_refl _) _).alloc (by simp) _
 obtain ⟨m,hm⟩:∃ m,m=min l.length 400:=⟨_,rfl⟩;have HSZ:Hid (∀ u,Calls Tryz.prog 52 #[.slice va l.length vc] u fun e w'=>e=.returned (.int .i64 (m:Nat))/\w'=u):=fun u=>by rw [hm];exact Z2x va l.length vc hlm u
 have hm4:m<=400:=by omega
 obtain ⟨N,hN⟩:∃ N,N=3+m / 10:=⟨_,rfl⟩;have hN2:N<=200:=by omega
 have hNe:(3:Int)+(m:Int) / 10=(N:Int):=by omega
 have hkk:=dnD_k l 0 N hN2;have hok:=dnD_ok l 0 N hN2;obtain ⟨D,hD⟩:∃ D,D=dnD l 0 N:=⟨_,rfl⟩;have HDN:Hid (Calls Tryz.prog 51 #[.pointer (some ⟨w.heap.size+1,0,none⟩),.int .i64 (N:Nat)] W fun r w'=>∃ x,r=.returned (.agg (ndC D.n x))/\NdO w' W.heap.size D.n x/\Src w' (w.heap.size+1) (.slice va l.length vc) l D.k/\W.grownBy w' (some (w.heap.size+1))):=by rw [hD];exact Z0v (w.heap.size+1) W _ l 0 N hL (by omega) hN2 HSr.out
 rw [<-hD] at hkk hok;have HOK:Hid (Yo D.n=0):=hok;have HKK:Hid (D.k<=0+5000):=hkk;have HL:Hid (l.length<=1048576/\l.length<=maxLen):=⟨hL,hlm⟩;clear hm hN hD hok hkk hv;go_enter Tryz.func24,Tryz.ntmps24;show (Z9 Tryz.f24).wp Tryz.prog _ _ _;rw [show Z9 Tryz.f24=.seq (Z2 0 (Z9 Tryz.f24)) (.seq (Z2 1 (Z9 Tryz.f24)) (.seq (Z2 2 (Z9 Tryz.f24)) (Z1 3 (Z9 Tryz.f24)))) from rfl];refine wp_seq_k ?_;intro K1 hK1;refine dl0 (v:=.slice va l.length vc) ⟨rfl,rfl⟩ rfl fun a1 w1 f1 g0 g2 e1=>hK1 _ _ ?_
 refine wp_seq_k ?_;intro K2 hK2;refine dl1 (v:=.slice va l.length vc) ⟨_,_,_,rfl⟩ f1 g0 g2 fun a2 w2 f2 i0 i2 i3 e2=>hK2 _ _ ?_
 have e3:w2=W:=by rw [e2,e1,hW]
 subst e3;have e4:w1.heap.size=w.heap.size+1:=by rw [e1];simp
 rw [e4] at i3;clear hW e1 e2 e4;refine wp_seq_k ?_;intro K3 hK3;refine dl2 (N:=N) hNe hm4 hN2 f2 HSZ i0 i2 i3 HDN fun a3 w3 x3 w4 f3 j0 j2 j3 j4 e3 ho hs hg=>hK3 _ _ ?_
 subst e3
 have hS:LdS w2 (w.heap.size+1) (.slice va l.length vc) l w4.heap.size (w4.alloc (.cells (ndC D.n x3) 36)) D.k D.n x3:=
  ⟨hs.alloc _,World.grownBy.trans' hg (World.grownBy_alloc _ _ _),⟨Blk.new _ _ _,ho.keep fun q _ h2=>((Below.refl _ _).alloc (Nat.le_refl _) _).block q h2⟩,hg.size,HOK.out⟩
 refine dlTail (b2:=w.heap.size) (D:=w.heap.size) HL.out.1 HL.out.2 (by have:=HKK.out;omega) (by omega) (by omega) (by omega) (by omega) (Nat.le_refl _) HBk.out f3 j0 j2 j3 j4 hS ?_;intro a' w' n' x' f' e' bk ow ok gd bl;obtain ⟨t,rfl⟩:=f'.opened;exact bodyPost_ret (Y5 Tryz.results24 e' bk Tryz.underlying36 rfl Z3k rfl) rfl ⟨n',x',rfl,ow.le (by omega),ok,gd,HBl.out.trans bl⟩
end Go.Proofs.YtmmpoppgabadmaaGreat
