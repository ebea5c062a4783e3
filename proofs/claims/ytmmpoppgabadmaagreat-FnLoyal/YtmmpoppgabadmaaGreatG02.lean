import Derived.Test.YtmmpoppgabadmaaGreatG01
import Derived.Orders
import Derived.WalkKit
set_option linter.unusedVariables false
set_option linter.unusedSimpArgs false
set_option maxRecDepth 100000
set_option maxHeartbeats 16000000
namespace Go.Proofs.YtmmpoppgabadmaaGreat
open Go.RowKit
theorem Xy:(Tryz.prog.info? 118).map (·.size)=some 7:=by kernel_rfl
theorem infoCmd6:(Tryz.prog.info? 44).map (·.size)=some 6:=by kernel_rfl
theorem Z0t (w:World)(e:Ent):Xv (w.alloc (.cells #[.int .i64 e.t,.int .i64 e.cl,.int .i64 e.sq,.int .i64 e.op,.string e.k,.string e.v,.string e.o] 118)) w.heap.size 0 e:=by
 unfold Xv;simp [World.cell?_alloc_new]
theorem Z1h {g:Nat} : ∀(vs:List Value) (o:Nat) (w:World),(w.setCells g o vs).heap.size=w.heap.size
 | [],_,_=>rfl
 | v :: vs,o,w=>(Z1h vs (o+1) _).trans (by simp [World.setCell])
theorem Z11 {g k:Nat}(h:k≠g):∀(vs:List Value) (o:Nat) (w:World),(w.setCells g o vs).heap[k]? = w.heap[k]?
 | [],_,_=>rfl
 | v :: vs,o,w=>(Z11 h vs (o+1) _).trans (Below.heap_setCell w ⟨g,o,none⟩ v k h)
theorem Z32 {w w':World}{g b o:Nat}{vs:List Value}(h:w.grownBy w' (some g))(hb:w.heap.size<=b):w.grownBy (w'.setCells b o vs) (some g):=by
 have hB:=Z1e (B:=b) (w0:=w') (Nat.le_refl _) vs o w' (Below.refl _ _);exact ⟨hB.os.trans h.os,hB.tape.trans h.tape,hB.output.trans h.output,Nat.le_trans h.size hB.size,fun k hk hne=>(hB.block k (by omega)).trans (h.block k hk hne)⟩
theorem srcCells {w:World}{g b:Nat}{v:Value}{l:List Int}{k:Nat}{t m1 m2 m3:Int}{m4 m5 m6:ByteArray}(h:Src w g v l k)(hb:Blk w b #[.int .i64 t,.int .i64 0,.int .i64 0,.int .i64 0,.string ⟨#[]⟩,.string ⟨#[]⟩,.string ⟨#[]⟩] 118)(hne:b≠g) :
  Src (w.setCells b 1 [.int .i64 m1,.int .i64 m2,.int .i64 m3,.string m4,.string m5,.string m6]) g v l k:=by
 have h1:=h.setB hb hne 1 (by simp) (Yd rfl) (.int .i64 m1);have b1:Blk _ b #[.int .i64 t,.int .i64 m1,.int .i64 0,.int .i64 0,.string ⟨#[]⟩,.string ⟨#[]⟩,.string ⟨#[]⟩] 118:=hb.set 1 (.int .i64 m1);have h2:=h1.setB b1 hne 2 (by simp) (Yd rfl) (.int .i64 m2);have b2:Blk _ b #[.int .i64 t,.int .i64 m1,.int .i64 m2,.int .i64 0,.string ⟨#[]⟩,.string ⟨#[]⟩,.string ⟨#[]⟩] 118:=b1.set 2 (.int .i64 m2);have h3:=h2.setB b2 hne 3 (by simp) (Yd rfl) (.int .i64 m3);have b3:Blk _ b #[.int .i64 t,.int .i64 m1,.int .i64 m2,.int .i64 m3,.string ⟨#[]⟩,.string ⟨#[]⟩,.string ⟨#[]⟩] 118:=b2.set 3 (.int .i64 m3);have h4:=h3.setB b3 hne 4 (by simp) (Yd rfl) (.string m4);have b4:Blk _ b #[.int .i64 t,.int .i64 m1,.int .i64 m2,.int .i64 m3,.string m4,.string ⟨#[]⟩,.string ⟨#[]⟩] 118:=b3.set 4 (.string m4);have h5:=h4.setB b4 hne 5 (by simp) (Yd rfl) (.string m5);have b5:Blk _ b #[.int .i64 t,.int .i64 m1,.int .i64 m2,.int .i64 m3,.string m4,.string m5,.string ⟨#[]⟩] 118:=b4.set 5 (.string m5);exact h5.setB b5 hne 6 (by simp) (Yd rfl) (.string m6)
theorem Z1q {w0 w w' wo:World}{g:Nat}{v:Value}{l:List Int}{k:Nat}{u u':Value}{E:List Ent}(h:Src w g v l k)(h0:Bs w0 v l)(hw:w0.heap.size<=w.heap.size)(hg:Xe w u w' u')(ho:Zv wo w0.heap.size u E)(hg0:g<w0.heap.size):Src w' g v l k:=by
 have hb:Below w0.heap.size w w':=(Below.refl _ _).grown hg.g hw (fun k hk=>(ho.2.lt k hk).1);obtain ⟨h1,h2,⟨hl,h8,a,cap,rfl,hc⟩,h4,h5⟩:=h;obtain ⟨_,_,a',cap',e,hc0⟩:=h0;injection e with e1 e2 e3;subst e1 e3;refine ⟨Nat.lt_of_lt_of_le h1 hb.size,fun i=>by rw [hb.frozen (p:=⟨g,i,none⟩) hg0];exact h2 i,⟨hl,h8,a,cap,rfl,fun i hi=>?_⟩,(hb.cell (p:=⟨g,0,none⟩) hg0).trans h4,(hb.cell (p:=⟨g,1,none⟩) hg0).trans h5⟩;obtain ⟨b,off,rfl,hj⟩:=hc i hi;obtain ⟨b',off',e',hj'⟩:=hc0 i hi;injection e' with e';injection e' with e1' e2';subst e1' e2';exact ⟨b,off,rfl,fun m hm=>(hb.cell (p:=⟨b,off+m,none⟩) (Xb (hj' m hm))).trans (hj m hm)⟩
theorem Z1n {w w1 w':World}{g:Nat}{v v':Value}{l:List Ent}{wo:World}(h:w.grownBy w1 (some g))(hg:Xe w1 v w' v')(ho:Zv wo w.heap.size v l):w.grownBy w' (some g):=
 ⟨hg.g.os.trans h.os,hg.g.tape.trans h.tape,hg.g.output.trans h.output,Nat.le_trans h.size hg.g.size,fun k hk hne=>(hg.g.block k (Nat.lt_of_lt_of_le hk h.size) (fun e=>by have:=(ho.2.lt k e.symm).1;omega)).trans (h.block k hk hne)⟩
def entT (l:List Int)(k:Nat)(t:Int):Int:=if Z5 l k 5=0/\t<1073741824 then t+1 else t
def entE (l:List Int)(k:Nat)(t:Int):Ent:=if Z5 l (k+1) 6=0 then ⟨entT l k t,0,0,0,⟨#[]⟩,⟨#[]⟩,⟨#[]⟩⟩ else ⟨entT l k t,cmdCl l (k+1+1),Z0e l (k+1+1),J6 l (k+1+1),Z1v l (k+1+1),Je l (k+1+1),Jd l (k+1+1)⟩
def Z1w (l:List Int)(k:Nat):Nat:=if Z5 l (k+1) 6=0 then k+1+1 else Z0r l (k+1+1)
def Y5 (l:List Int)(k:Nat)(t:Int):Nat->List Ent×Nat×Int
 | 0=>([],k,t)
 | n+1=>((Y5 l k t n).1 ++ [entE l (Y5 l k t n).2.1 (Y5 l k t n).2.2],Z1w l (Y5 l k t n).2.1,entT l (Y5 l k t n).2.1 (Y5 l k t n).2.2)
theorem Jb (l:List Int)(k:Nat)(t:Int)(n:Nat):(Y5 l k t n).1.length=n:=by
 induction n with
 | zero=>rfl
 | succ n ih=>rw [Y5,List.length_append,ih];rfl
theorem entKn_le (l:List Int)(k:Nat):k<Z1w l k/\Z1w l k<=k+16:=by
 have:=cmdK_le l (k+1+1);unfold Z1w;split <;> omega
theorem Z1g (l:List Int)(k:Nat)(t:Int)(n:Nat):k<=(Y5 l k t n).2.1/\(Y5 l k t n).2.1<=k+16*n:=by
 induction n with
 | zero=>exact ⟨Nat.le_refl _,Nat.le_refl _⟩
 | succ n ih=>
  have:=entKn_le l (Y5 l k t n).2.1;rw [Y5];exact ⟨by show k<=Z1w l _;omega,by show Z1w l _<=_;omega⟩
theorem entT_le (l:List Int)(k:Nat)(t:Int)(h0:0<=t)(h1:t<=1073741824):t<=entT l k t/\entT l k t<=1073741824:=by
 unfold entT;split <;> omega
theorem entsD_t (l:List Int)(k:Nat)(t:Int)(n:Nat)(h0:0<=t)(h1:t<=1073741824):t<=(Y5 l k t n).2.2/\(Y5 l k t n).2.2<=1073741824:=by
 induction n with
 | zero=>exact ⟨Int.le_refl _,h1⟩
 | succ n ih=>
  have:=entT_le l (Y5 l k t n).2.1 (Y5 l k t n).2.2 (by omega) ih.2;rw [Y5];exact ⟨Int.le_trans ih.1 this.1,this.2⟩
theorem entE_fits (l:List Int)(k:Nat)(t:Int):(entE l k t).fits:=by
 have h:=cmd_facts l (k+1+1);unfold entE;split
 ·exact ⟨(by decide:(⟨#[]⟩:ByteArray).size<=maxLen),(by decide:(⟨#[]⟩:ByteArray).size<=maxLen),(by decide:(⟨#[]⟩:ByteArray).size<=maxLen)⟩
 ·obtain ⟨_,_,_,_,_,_,_,h1,h2⟩:=h
  unfold Ent.fits maxLen;dsimp only;omega
theorem Jo (g:Nat)(w:World)(v:Value)(l:List Int)(k n:Nat)(t:Int)(hL:l.length<=1048576)(hk:k<=600000000)(hn:n<=100000)(ht:0<=t/\t<=1073741824)(h:Src w g v l k) :
  Calls Tryz.prog 96 #[.pointer (some ⟨g,0,none⟩),.int .i64 n,.int .i64 t] w fun r w'=>∃ ev,r=.returned ev/\Zv w' w.heap.size ev (Y5 l k t n).1/\Src w' g v l (Y5 l k t n).2.1/\w.grownBy w' (some g):=by
 have HS:Hid (Src w g v l k):=h;have hg0:g<w.heap.size:=h.lt;clear h;go_enter Tryz.func96,Tryz.ntmps96;go_wp2
 go_loopw [2,7,8] (fun t2 es i wr=>∃ j:Nat,j<=n/\i=.int .i64 j/\t2=.int .i64 (Y5 l k t j).2.2/\Zv wr w.heap.size es (Y5 l k t j).1/\Src wr g v l (Y5 l k t j).2.1/\w.grownBy wr (some g)) (fun _ _ i _=>n-(intOf i).toNat)
 case atStart=>exact ⟨0,Nat.zero_le _,rfl,rfl,Zv.made _ _ (Nat.le_refl _),HS.out.below ((Below.refl _ _).alloc (Nat.le_refl _) _),World.grownBy_alloc _ _ _⟩
 case round=>
  obtain ⟨j,hj,rfl,rfl,ho,hs,hgr⟩:=hrel;obtain ⟨la,lc,es⟩:=ho.shape;rw [Jb] at es;subst es;have hkk:=Z1g l k t j;have htt:=entsD_t l k t j ht.1 ht.2;have hz:=hgr.size;by_cases hlt:j<n
  ·have hD:Y5 l k t (j+1)=((Y5 l k t j).1 ++ [entE l (Y5 l k t j).2.1 (Y5 l k t j).2.2],Z1w l (Y5 l k t j).2.1,entT l (Y5 l k t j).2.1 (Y5 l k t j).2.2):=rfl
   have hlen:=Jb l k t j;generalize (Y5 l k t j).1=L at *;generalize (Y5 l k t j).2.1=K at *;generalize (Y5 l k t j).2.2=TT at *;have HO:Hid (Zv wr w.heap.size (.slice la j lc) L):=ho;have HGR:Hid (w.grownBy wr (some g)):=hgr;have HD:Hid (Y5 l k t (j+1)=(L ++ [entE l K TT],Z1w l K,entT l K TT)):=hD;have HLen:Hid (L.length=j):=hlen;have hfit:=entE_fits l K TT;have HP5:Hid (Calls Tryz.prog 53 #[.pointer (some ⟨g,0,none⟩),.int .i64 5] wr fun e w'=>e=.returned (.int .i64 (Z5 l K 5:Nat))/\Src w' g v l (K+1)/\wr.grownBy w' (some g)):=Zq g wr v l K 5 hL (by omega) (by decide) (by decide) hs;have HP6:∀ u:World,Src u g v l (K+1)->Hid (Calls Tryz.prog 53 #[.pointer (some ⟨g,0,none⟩),.int .i64 6] u fun e w'=>e=.returned (.int .i64 (Z5 l (K+1) 6:Nat))/\Src w' g v l (K+1+1)/\u.grownBy w' (some g)):=fun u h=>Zq g u v l (K+1) 6 hL (by omega) (by decide) (by decide) h
   have HCm:∀ u:World,Src u g v l (K+1+1)->Hid (Calls Tryz.prog 105 #[.pointer (some ⟨g,0,none⟩)] u fun r w'=>r=.returned (.agg #[.int .i64 (cmdCl l (K+1+1)),.int .i64 (Z0e l (K+1+1)),.int .i64 (J6 l (K+1+1)),.string (Z1v l (K+1+1)),.string (Je l (K+1+1)),.string (Jd l (K+1+1))])/\Src w' g v l (Z0r l (K+1+1))/\u.grownBy w' (some g)):=fun u h=>l1drawCmd_any g u v l (K+1+1) hL (by omega) h
   have hT5:entT l K TT=if Z5 l K 5=0/\TT<1073741824 then TT+1 else TT:=rfl
   have hE6:entE l K TT=if Z5 l (K+1) 6=0 then ⟨entT l K TT,0,0,0,⟨#[]⟩,⟨#[]⟩,⟨#[]⟩⟩ else ⟨entT l K TT,cmdCl l (K+1+1),Z0e l (K+1+1),J6 l (K+1+1),Z1v l (K+1+1),Je l (K+1+1),Jd l (K+1+1)⟩:=rfl
   have hK6:Z1w l K=if Z5 l (K+1) 6=0 then K+1+1 else Z0r l (K+1+1):=rfl
   have b5:=Zf l K 5 (by decide);have b6:=Zf l (K+1) 6 (by decide);generalize entE l K TT=E at *;generalize Z1w l K=KN at *;generalize entT l K TT=TN at *;generalize Z5 l K 5=p5 at *;generalize Z5 l (K+1) 6=p6 at *;generalize cmdCl l (K+1+1)=m1 at *;generalize Z0e l (K+1+1)=m2 at *;generalize J6 l (K+1+1)=m3 at *;generalize Z1v l (K+1+1)=m4 at *;generalize Je l (K+1+1)=m5 at *;generalize Jd l (K+1+1)=m6 at *;generalize Z0r l (K+1+1)=KC at *;have hjn:(j:Int)<(n:Int):=by omega
   have y1:True:=trivial;clear ho hs hgr hD hlen;rcases (show (p5≠0∨¬ TT<1073741824)∨(p5=0/\TT<1073741824) by omega) with h5 | ⟨h5,h5'⟩
   ·obtain rfl:TN=TT:=by rw [hT5,if_neg (by omega)]
    rcases (show p5≠0∨(p5=0/\¬ TN<1073741824) by omega) with h5 | ⟨rfl,h5⟩
    ·have n5:((p5:Int) == 0)=false:=by rw [beq_eq_false_iff_ne];omega
     clear hT5;by_cases h6:p6=0
     ·subst h6
      have HE:Hid (E=⟨TN,0,0,0,⟨#[]⟩,⟨#[]⟩,⟨#[]⟩⟩):=(show E=⟨TN,0,0,0,⟨#[]⟩,⟨#[]⟩,⟨#[]⟩⟩ by rw [hE6,if_pos rfl]);obtain rfl:KN=K+1+1:=by rw [hK6,if_pos rfl]
      clear hE6 hK6
      go_wp2_with (first
       |(go_at_call 53;clear y1;refine Calls.mono HP5.out ?_;rintro e w1 ⟨rfl,hs1,hg1⟩;have z1:=hg1.size;have HS1:Hid (Src w1 g v l (K+1)):=hs1;have HG1:Hid (w.grownBy w1 (some g)):=Zg HGR.out hg1;have HO1:Hid (Zv w1 w.heap.size (.slice la j lc) L):=HO.out.grown hg1 hg0;clear hs1 hg1)
       |(have hBA:=HS1;refine Y2 118 (.tmp 9) _ rfl ?_;clear hBA;refine Zz rfl 118 (.tmp 9) _ rfl (w1.heap.size) rfl rfl rfl Xy rfl rfl (by simp [Value.oneCell']) ?_;obtain ⟨W2,hW2⟩:∃ W2,W2=w1.alloc (.cells #[.int .i64 TN,.int .i64 0,.int .i64 0,.int .i64 0,.string ⟨#[]⟩,.string ⟨#[]⟩,.string ⟨#[]⟩] 118):=⟨_,rfl⟩;rw [<-hW2];have HS2:Hid (Src W2 g v l (K+1)):=(by rw [hW2];exact HS1.out.alloc _);have HE2:Hid (Blk W2 w1.heap.size #[.int .i64 TN,.int .i64 0,.int .i64 0,.int .i64 0,.string ⟨#[]⟩,.string ⟨#[]⟩,.string ⟨#[]⟩] 118):=(by rw [hW2];exact Blk.new _ _ _);have HG2:Hid (w.grownBy W2 (some g)):=(by rw [hW2];exact Zg HG1.out (World.grownBy_alloc _ _ _));have HO2:Hid (Zv W2 w.heap.size (.slice la j lc) L):=(by rw [hW2];exact HO1.out.below ((Below.refl _ _).alloc (Nat.le_refl _) _));have hol:Hid (∀ q,(Value.slice la j lc).ownBlock=some q->q<w1.heap.size):=(fun q hq=>(HO1.out.2.lt q hq).2);clear hW2)
       |(go_at_call 53;refine Calls.mono (HP6 _ HS2.out).out ?_;rintro e w3 ⟨rfl,hs3,hg3⟩;have z3:=hg3.size;have z2:=HE2.out.lt;have HS3:Hid (Src w3 g v l (K+1+1)):=hs3;have HE3:Hid (Blk w3 w1.heap.size _ 118):=HE2.out.grown hg3 (by omega);have HG3:Hid (w.grownBy w3 (some g)):=Zg HG2.out hg3;have HO3:Hid (Zv w3 w.heap.size (.slice la j lc) L):=HO2.out.grown hg3 hg0;clear hs3 hg3)
       |(have hBA:=HE3;refine Zw 118 (.tmp 9) rfl ?_;clear hBA;refine Zk rfl 118 (.tmp 9) rfl (w1.heap.size) rfl HE3.out Tryz.underlying118 rfl Xy rfl ?_;have HEA:Hid (Xv (w3.alloc (.cells #[.int .i64 TN,.int .i64 0,.int .i64 0,.int .i64 0,.string ⟨#[]⟩,.string ⟨#[]⟩,.string ⟨#[]⟩] 118)) w3.heap.size 0 E):=(by rw [HE.out];exact Z0t w3 ⟨TN,0,0,0,⟨#[]⟩,⟨#[]⟩,⟨#[]⟩⟩))
       |(at_builtin;refine Xu rfl (.tmp 33) (.tmp 35) rfl E hfit (Zv.below HO3.out ((Below.refl _ _).alloc (Nat.le_refl _) _)) rfl w3.heap.size 1 HEA.out rfl (by rw [HLen.out];omega) (by have hzz:=HG3.out.size;simp;omega) ?_;intro v1 w9 ho9 hg9;have HO9:Hid (Zv w9 w.heap.size v1 (L ++ [E])):=ho9;have HS9:Hid (Src w9 g v l (K+1+1)):=Z1q (HS3.out.alloc _) HS.out.2.2.1 (by have hzz:=HG3.out.size;simp;omega) hg9 HO3.out hg0;have HG9:Hid (w.grownBy w9 (some g)):=Z1n (Zg HG3.out (World.grownBy_alloc _ _ _)) hg9 HO3.out;clear ho9 hg9))
      go_roundw
      case rel=>exact ⟨j+1,by omega,by go_num,by rw [HD.out],by rw [HD.out];exact HO9.out,by rw [HD.out];exact HS9.out,HG9.out⟩
      case measure=>simp [intOf];omega
     ·have n6:((p6:Int) != 0)=true:=by rw [bne_iff_ne];omega
      have HE:Hid (E=⟨TN,m1,m2,m3,m4,m5,m6⟩):=(show E=⟨TN,m1,m2,m3,m4,m5,m6⟩ by rw [hE6,if_neg h6]);obtain rfl:KN=KC:=by rw [hK6,if_neg h6]
      clear hE6 hK6
      go_wp2_with (first
       |(go_at_call 53;clear y1;refine Calls.mono HP5.out ?_;rintro e w1 ⟨rfl,hs1,hg1⟩;have z1:=hg1.size;have HS1:Hid (Src w1 g v l (K+1)):=hs1;have HG1:Hid (w.grownBy w1 (some g)):=Zg HGR.out hg1;have HO1:Hid (Zv w1 w.heap.size (.slice la j lc) L):=HO.out.grown hg1 hg0;clear hs1 hg1)
       |(have hBA:=HS1;refine Y2 118 (.tmp 9) _ rfl ?_;clear hBA;refine Zz rfl 118 (.tmp 9) _ rfl (w1.heap.size) rfl rfl rfl Xy rfl rfl (by simp [Value.oneCell']) ?_;obtain ⟨W2,hW2⟩:∃ W2,W2=w1.alloc (.cells #[.int .i64 TN,.int .i64 0,.int .i64 0,.int .i64 0,.string ⟨#[]⟩,.string ⟨#[]⟩,.string ⟨#[]⟩] 118):=⟨_,rfl⟩;rw [<-hW2];have HS2:Hid (Src W2 g v l (K+1)):=(by rw [hW2];exact HS1.out.alloc _);have HE2:Hid (Blk W2 w1.heap.size #[.int .i64 TN,.int .i64 0,.int .i64 0,.int .i64 0,.string ⟨#[]⟩,.string ⟨#[]⟩,.string ⟨#[]⟩] 118):=(by rw [hW2];exact Blk.new _ _ _);have HG2:Hid (w.grownBy W2 (some g)):=(by rw [hW2];exact Zg HG1.out (World.grownBy_alloc _ _ _));have HO2:Hid (Zv W2 w.heap.size (.slice la j lc) L):=(by rw [hW2];exact HO1.out.below ((Below.refl _ _).alloc (Nat.le_refl _) _));have hol:Hid (∀ q,(Value.slice la j lc).ownBlock=some q->q<w1.heap.size):=(fun q hq=>(HO1.out.2.lt q hq).2);clear hW2)
       |(go_at_call 53;refine Calls.mono (HP6 _ HS2.out).out ?_;rintro e w3 ⟨rfl,hs3,hg3⟩;have z3:=hg3.size;have z2:=HE2.out.lt;have HS3:Hid (Src w3 g v l (K+1+1)):=hs3;have HE3:Hid (Blk w3 w1.heap.size _ 118):=HE2.out.grown hg3 (by omega);have HG3:Hid (w.grownBy w3 (some g)):=Zg HG2.out hg3;have HO3:Hid (Zv w3 w.heap.size (.slice la j lc) L):=HO2.out.grown hg3 hg0;clear hs3 hg3)
       |(go_at_call 105;refine Calls.mono (HCm _ HS3.out).out ?_;rintro e w4 ⟨rfl,hs4,hg4⟩;have z4:=hg4.size;have z4b:=HE3.out.lt;have HS4:Hid (Src w4 g v l KN):=hs4;have HE4:Hid (Blk w4 w1.heap.size _ 118):=HE3.out.grown hg4 (by omega);have HG4:Hid (w.grownBy w4 (some g)):=Zg HG3.out hg4;have HO4:Hid (Zv w4 w.heap.size (.slice la j lc) L):=HO3.out.grown hg4 hg0;have hTh:Hid (w4.there w1.heap.size 1 6):=Z22 HE4.out.there 1 6 (by simp);clear hs4 hg4)
       |(have hBA:=HE4;refine Z20 44 (.tmp 32) (.tmp 31) rfl ?_;clear hBA;refine wpList_store_mid rfl 44 (.tmp 32) (.tmp 31) rfl (w1.heap.size) 1 #[.int .i64 m1,.int .i64 m2,.int .i64 m3,.string m4,.string m5,.string m6] rfl rfl hTh.out infoCmd6 (by simp [Value.oneCell']) ?_;obtain ⟨U,hU⟩:∃ U,U=w4.setCells w1.heap.size 1 [.int .i64 m1,.int .i64 m2,.int .i64 m3,.string m4,.string m5,.string m6]:=⟨_,rfl⟩;rw [show w4.setCells w1.heap.size 1 (#[.int .i64 m1,.int .i64 m2,.int .i64 m3,.string m4,.string m5,.string m6]:Array Value).toList=U from hU.symm];have hzU:Hid (U.heap.size=w4.heap.size):=(by rw [hU];exact Z1h _ _ _);have HEU:Hid (Blk U w1.heap.size #[.int .i64 TN,.int .i64 m1,.int .i64 m2,.int .i64 m3,.string m4,.string m5,.string m6] 118):=(by rw [hU];exact (((((HE4.out.set 1 _).set 2 _).set 3 _).set 4 _).set 5 _).set 6 _);have HSU:Hid (Src U g v l KN):=(by rw [hU];exact srcCells HS4.out HE4.out (by omega));have HGU:Hid (w.grownBy U (some g)):=(by rw [hU];exact Z32 HG4.out (by omega));have HOU:Hid (Zv U w.heap.size (.slice la j lc) L):=(by rw [hU];exact HO4.out.block fun q hq=>Z11 (by have:=hol.out q hq;omega) _ _ _);clear hU)
       |(have hBA:=HEU;refine Zw 118 (.tmp 9) rfl ?_;clear hBA;refine Zk rfl 118 (.tmp 9) rfl (w1.heap.size) rfl HEU.out Tryz.underlying118 rfl Xy rfl ?_;have HEA:Hid (Xv (U.alloc (.cells #[.int .i64 TN,.int .i64 m1,.int .i64 m2,.int .i64 m3,.string m4,.string m5,.string m6] 118)) U.heap.size 0 E):=(by rw [HE.out];exact Z0t U ⟨TN,m1,m2,m3,m4,m5,m6⟩))
       |(at_builtin;refine Xu rfl (.tmp 33) (.tmp 35) rfl E hfit (Zv.below HOU.out ((Below.refl _ _).alloc (Nat.le_refl _) _)) rfl U.heap.size 1 HEA.out rfl (by rw [HLen.out];omega) (by have hzz:=HGU.out.size;simp;omega) ?_;intro v1 w9 ho9 hg9;have HO9:Hid (Zv w9 w.heap.size v1 (L ++ [E])):=ho9;have HS9:Hid (Src w9 g v l KN):=Z1q (HSU.out.alloc _) HS.out.2.2.1 (by have hzz:=HGU.out.size;simp;omega) hg9 HOU.out hg0;have HG9:Hid (w.grownBy w9 (some g)):=Z1n (Zg HGU.out (World.grownBy_alloc _ _ _)) hg9 HOU.out;clear ho9 hg9))
      go_roundw
      case rel=>exact ⟨j+1,by omega,by go_num,by rw [HD.out],by rw [HD.out];exact HO9.out,by rw [HD.out];exact HS9.out,HG9.out⟩
      case measure=>simp [intOf];omega
    ·skip
     clear hT5;by_cases h6:p6=0
     ·subst h6
      have HE:Hid (E=⟨TN,0,0,0,⟨#[]⟩,⟨#[]⟩,⟨#[]⟩⟩):=(show E=⟨TN,0,0,0,⟨#[]⟩,⟨#[]⟩,⟨#[]⟩⟩ by rw [hE6,if_pos rfl]);obtain rfl:KN=K+1+1:=by rw [hK6,if_pos rfl]
      clear hE6 hK6
      go_wp2_with (first
       |(go_at_call 53;clear y1;refine Calls.mono HP5.out ?_;rintro e w1 ⟨rfl,hs1,hg1⟩;have z1:=hg1.size;have HS1:Hid (Src w1 g v l (K+1)):=hs1;have HG1:Hid (w.grownBy w1 (some g)):=Zg HGR.out hg1;have HO1:Hid (Zv w1 w.heap.size (.slice la j lc) L):=HO.out.grown hg1 hg0;clear hs1 hg1)
       |(have hBA:=HS1;refine Y2 118 (.tmp 9) _ rfl ?_;clear hBA;refine Zz rfl 118 (.tmp 9) _ rfl (w1.heap.size) rfl rfl rfl Xy rfl rfl (by simp [Value.oneCell']) ?_;obtain ⟨W2,hW2⟩:∃ W2,W2=w1.alloc (.cells #[.int .i64 TN,.int .i64 0,.int .i64 0,.int .i64 0,.string ⟨#[]⟩,.string ⟨#[]⟩,.string ⟨#[]⟩] 118):=⟨_,rfl⟩;rw [<-hW2];have HS2:Hid (Src W2 g v l (K+1)):=(by rw [hW2];exact HS1.out.alloc _);have HE2:Hid (Blk W2 w1.heap.size #[.int .i64 TN,.int .i64 0,.int .i64 0,.int .i64 0,.string ⟨#[]⟩,.string ⟨#[]⟩,.string ⟨#[]⟩] 118):=(by rw [hW2];exact Blk.new _ _ _);have HG2:Hid (w.grownBy W2 (some g)):=(by rw [hW2];exact Zg HG1.out (World.grownBy_alloc _ _ _));have HO2:Hid (Zv W2 w.heap.size (.slice la j lc) L):=(by rw [hW2];exact HO1.out.below ((Below.refl _ _).alloc (Nat.le_refl _) _));have hol:Hid (∀ q,(Value.slice la j lc).ownBlock=some q->q<w1.heap.size):=(fun q hq=>(HO1.out.2.lt q hq).2);clear hW2)
       |(go_at_call 53;refine Calls.mono (HP6 _ HS2.out).out ?_;rintro e w3 ⟨rfl,hs3,hg3⟩;have z3:=hg3.size;have z2:=HE2.out.lt;have HS3:Hid (Src w3 g v l (K+1+1)):=hs3;have HE3:Hid (Blk w3 w1.heap.size _ 118):=HE2.out.grown hg3 (by omega);have HG3:Hid (w.grownBy w3 (some g)):=Zg HG2.out hg3;have HO3:Hid (Zv w3 w.heap.size (.slice la j lc) L):=HO2.out.grown hg3 hg0;clear hs3 hg3)
       |(have hBA:=HE3;refine Zw 118 (.tmp 9) rfl ?_;clear hBA;refine Zk rfl 118 (.tmp 9) rfl (w1.heap.size) rfl HE3.out Tryz.underlying118 rfl Xy rfl ?_;have HEA:Hid (Xv (w3.alloc (.cells #[.int .i64 TN,.int .i64 0,.int .i64 0,.int .i64 0,.string ⟨#[]⟩,.string ⟨#[]⟩,.string ⟨#[]⟩] 118)) w3.heap.size 0 E):=(by rw [HE.out];exact Z0t w3 ⟨TN,0,0,0,⟨#[]⟩,⟨#[]⟩,⟨#[]⟩⟩))
       |(at_builtin;refine Xu rfl (.tmp 33) (.tmp 35) rfl E hfit (Zv.below HO3.out ((Below.refl _ _).alloc (Nat.le_refl _) _)) rfl w3.heap.size 1 HEA.out rfl (by rw [HLen.out];omega) (by have hzz:=HG3.out.size;simp;omega) ?_;intro v1 w9 ho9 hg9;have HO9:Hid (Zv w9 w.heap.size v1 (L ++ [E])):=ho9;have HS9:Hid (Src w9 g v l (K+1+1)):=Z1q (HS3.out.alloc _) HS.out.2.2.1 (by have hzz:=HG3.out.size;simp;omega) hg9 HO3.out hg0;have HG9:Hid (w.grownBy w9 (some g)):=Z1n (Zg HG3.out (World.grownBy_alloc _ _ _)) hg9 HO3.out;clear ho9 hg9))
      go_roundw
      case rel=>exact ⟨j+1,by omega,by go_num,by rw [HD.out],by rw [HD.out];exact HO9.out,by rw [HD.out];exact HS9.out,HG9.out⟩
      case measure=>simp [intOf];omega
     ·have n6:((p6:Int) != 0)=true:=by rw [bne_iff_ne];omega
      have HE:Hid (E=⟨TN,m1,m2,m3,m4,m5,m6⟩):=(show E=⟨TN,m1,m2,m3,m4,m5,m6⟩ by rw [hE6,if_neg h6]);obtain rfl:KN=KC:=by rw [hK6,if_neg h6]
      clear hE6 hK6
      go_wp2_with (first
       |(go_at_call 53;clear y1;refine Calls.mono HP5.out ?_;rintro e w1 ⟨rfl,hs1,hg1⟩;have z1:=hg1.size;have HS1:Hid (Src w1 g v l (K+1)):=hs1;have HG1:Hid (w.grownBy w1 (some g)):=Zg HGR.out hg1;have HO1:Hid (Zv w1 w.heap.size (.slice la j lc) L):=HO.out.grown hg1 hg0;clear hs1 hg1)
       |(have hBA:=HS1;refine Y2 118 (.tmp 9) _ rfl ?_;clear hBA;refine Zz rfl 118 (.tmp 9) _ rfl (w1.heap.size) rfl rfl rfl Xy rfl rfl (by simp [Value.oneCell']) ?_;obtain ⟨W2,hW2⟩:∃ W2,W2=w1.alloc (.cells #[.int .i64 TN,.int .i64 0,.int .i64 0,.int .i64 0,.string ⟨#[]⟩,.string ⟨#[]⟩,.string ⟨#[]⟩] 118):=⟨_,rfl⟩;rw [<-hW2];have HS2:Hid (Src W2 g v l (K+1)):=(by rw [hW2];exact HS1.out.alloc _);have HE2:Hid (Blk W2 w1.heap.size #[.int .i64 TN,.int .i64 0,.int .i64 0,.int .i64 0,.string ⟨#[]⟩,.string ⟨#[]⟩,.string ⟨#[]⟩] 118):=(by rw [hW2];exact Blk.new _ _ _);have HG2:Hid (w.grownBy W2 (some g)):=(by rw [hW2];exact Zg HG1.out (World.grownBy_alloc _ _ _));have HO2:Hid (Zv W2 w.heap.size (.slice la j lc) L):=(by rw [hW2];exact HO1.out.below ((Below.refl _ _).alloc (Nat.le_refl _) _));have hol:Hid (∀ q,(Value.slice la j lc).ownBlock=some q->q<w1.heap.size):=(fun q hq=>(HO1.out.2.lt q hq).2);clear hW2)
       |(go_at_call 53;refine Calls.mono (HP6 _ HS2.out).out ?_;rintro e w3 ⟨rfl,hs3,hg3⟩;have z3:=hg3.size;have z2:=HE2.out.lt;have HS3:Hid (Src w3 g v l (K+1+1)):=hs3;have HE3:Hid (Blk w3 w1.heap.size _ 118):=HE2.out.grown hg3 (by omega);have HG3:Hid (w.grownBy w3 (some g)):=Zg HG2.out hg3;have HO3:Hid (Zv w3 w.heap.size (.slice la j lc) L):=HO2.out.grown hg3 hg0;clear hs3 hg3)
       |(go_at_call 105;refine Calls.mono (HCm _ HS3.out).out ?_;rintro e w4 ⟨rfl,hs4,hg4⟩;have z4:=hg4.size;have z4b:=HE3.out.lt;have HS4:Hid (Src w4 g v l KN):=hs4;have HE4:Hid (Blk w4 w1.heap.size _ 118):=HE3.out.grown hg4 (by omega);have HG4:Hid (w.grownBy w4 (some g)):=Zg HG3.out hg4;have HO4:Hid (Zv w4 w.heap.size (.slice la j lc) L):=HO3.out.grown hg4 hg0;have hTh:Hid (w4.there w1.heap.size 1 6):=Z22 HE4.out.there 1 6 (by simp);clear hs4 hg4)
       |(have hBA:=HE4;refine Z20 44 (.tmp 32) (.tmp 31) rfl ?_;clear hBA;refine wpList_store_mid rfl 44 (.tmp 32) (.tmp 31) rfl (w1.heap.size) 1 #[.int .i64 m1,.int .i64 m2,.int .i64 m3,.string m4,.string m5,.string m6] rfl rfl hTh.out infoCmd6 (by simp [Value.oneCell']) ?_;obtain ⟨U,hU⟩:∃ U,U=w4.setCells w1.heap.size 1 [.int .i64 m1,.int .i64 m2,.int .i64 m3,.string m4,.string m5,.string m6]:=⟨_,rfl⟩;rw [show w4.setCells w1.heap.size 1 (#[.int .i64 m1,.int .i64 m2,.int .i64 m3,.string m4,.string m5,.string m6]:Array Value).toList=U from hU.symm];have hzU:Hid (U.heap.size=w4.heap.size):=(by rw [hU];exact Z1h _ _ _);have HEU:Hid (Blk U w1.heap.size #[.int .i64 TN,.int .i64 m1,.int .i64 m2,.int .i64 m3,.string m4,.string m5,.string m6] 118):=(by rw [hU];exact (((((HE4.out.set 1 _).set 2 _).set 3 _).set 4 _).set 5 _).set 6 _);have HSU:Hid (Src U g v l KN):=(by rw [hU];exact srcCells HS4.out HE4.out (by omega));have HGU:Hid (w.grownBy U (some g)):=(by rw [hU];exact Z32 HG4.out (by omega));have HOU:Hid (Zv U w.heap.size (.slice la j lc) L):=(by rw [hU];exact HO4.out.block fun q hq=>Z11 (by have:=hol.out q hq;omega) _ _ _);clear hU)
       |(have hBA:=HEU;refine Zw 118 (.tmp 9) rfl ?_;clear hBA;refine Zk rfl 118 (.tmp 9) rfl (w1.heap.size) rfl HEU.out Tryz.underlying118 rfl Xy rfl ?_;have HEA:Hid (Xv (U.alloc (.cells #[.int .i64 TN,.int .i64 m1,.int .i64 m2,.int .i64 m3,.string m4,.string m5,.string m6] 118)) U.heap.size 0 E):=(by rw [HE.out];exact Z0t U ⟨TN,m1,m2,m3,m4,m5,m6⟩))
       |(at_builtin;refine Xu rfl (.tmp 33) (.tmp 35) rfl E hfit (Zv.below HOU.out ((Below.refl _ _).alloc (Nat.le_refl _) _)) rfl U.heap.size 1 HEA.out rfl (by rw [HLen.out];omega) (by have hzz:=HGU.out.size;simp;omega) ?_;intro v1 w9 ho9 hg9;have HO9:Hid (Zv w9 w.heap.size v1 (L ++ [E])):=ho9;have HS9:Hid (Src w9 g v l KN):=Z1q (HSU.out.alloc _) HS.out.2.2.1 (by have hzz:=HGU.out.size;simp;omega) hg9 HOU.out hg0;have HG9:Hid (w.grownBy w9 (some g)):=Z1n (Zg HGU.out (World.grownBy_alloc _ _ _)) hg9 HOU.out;clear ho9 hg9))
      go_roundw
      case rel=>exact ⟨j+1,by omega,by go_num,by rw [HD.out],by rw [HD.out];exact HO9.out,by rw [HD.out];exact HS9.out,HG9.out⟩
      case measure=>simp [intOf];omega
   ·subst h5
    obtain rfl:TN=TT+1:=by rw [hT5,if_pos ⟨rfl,h5'⟩]
    skip
    clear hT5;by_cases h6:p6=0
    ·subst h6
     have HE:Hid (E=⟨(TT+1),0,0,0,⟨#[]⟩,⟨#[]⟩,⟨#[]⟩⟩):=(show E=⟨(TT+1),0,0,0,⟨#[]⟩,⟨#[]⟩,⟨#[]⟩⟩ by rw [hE6,if_pos rfl]);obtain rfl:KN=K+1+1:=by rw [hK6,if_pos rfl]
     clear hE6 hK6
     go_wp2_with (first
      |(go_at_call 53;clear y1;refine Calls.mono HP5.out ?_;rintro e w1 ⟨rfl,hs1,hg1⟩;have z1:=hg1.size;have HS1:Hid (Src w1 g v l (K+1)):=hs1;have HG1:Hid (w.grownBy w1 (some g)):=Zg HGR.out hg1;have HO1:Hid (Zv w1 w.heap.size (.slice la j lc) L):=HO.out.grown hg1 hg0;clear hs1 hg1)
      |(have hBA:=HS1;refine Y2 118 (.tmp 9) _ rfl ?_;clear hBA;refine Zz rfl 118 (.tmp 9) _ rfl (w1.heap.size) rfl rfl rfl Xy rfl rfl (by simp [Value.oneCell']) ?_;obtain ⟨W2,hW2⟩:∃ W2,W2=w1.alloc (.cells #[.int .i64 (TT+1),.int .i64 0,.int .i64 0,.int .i64 0,.string ⟨#[]⟩,.string ⟨#[]⟩,.string ⟨#[]⟩] 118):=⟨_,rfl⟩;rw [<-hW2];have HS2:Hid (Src W2 g v l (K+1)):=(by rw [hW2];exact HS1.out.alloc _);have HE2:Hid (Blk W2 w1.heap.size #[.int .i64 (TT+1),.int .i64 0,.int .i64 0,.int .i64 0,.string ⟨#[]⟩,.string ⟨#[]⟩,.string ⟨#[]⟩] 118):=(by rw [hW2];exact Blk.new _ _ _);have HG2:Hid (w.grownBy W2 (some g)):=(by rw [hW2];exact Zg HG1.out (World.grownBy_alloc _ _ _));have HO2:Hid (Zv W2 w.heap.size (.slice la j lc) L):=(by rw [hW2];exact HO1.out.below ((Below.refl _ _).alloc (Nat.le_refl _) _));have hol:Hid (∀ q,(Value.slice la j lc).ownBlock=some q->q<w1.heap.size):=(fun q hq=>(HO1.out.2.lt q hq).2);clear hW2)
      |(go_at_call 53;refine Calls.mono (HP6 _ HS2.out).out ?_;rintro e w3 ⟨rfl,hs3,hg3⟩;have z3:=hg3.size;have z2:=HE2.out.lt;have HS3:Hid (Src w3 g v l (K+1+1)):=hs3;have HE3:Hid (Blk w3 w1.heap.size _ 118):=HE2.out.grown hg3 (by omega);have HG3:Hid (w.grownBy w3 (some g)):=Zg HG2.out hg3;have HO3:Hid (Zv w3 w.heap.size (.slice la j lc) L):=HO2.out.grown hg3 hg0;clear hs3 hg3)
      |(have hBA:=HE3;refine Zw 118 (.tmp 9) rfl ?_;clear hBA;refine Zk rfl 118 (.tmp 9) rfl (w1.heap.size) rfl HE3.out Tryz.underlying118 rfl Xy rfl ?_;have HEA:Hid (Xv (w3.alloc (.cells #[.int .i64 (TT+1),.int .i64 0,.int .i64 0,.int .i64 0,.string ⟨#[]⟩,.string ⟨#[]⟩,.string ⟨#[]⟩] 118)) w3.heap.size 0 E):=(by rw [HE.out];exact Z0t w3 ⟨(TT+1),0,0,0,⟨#[]⟩,⟨#[]⟩,⟨#[]⟩⟩))
      |(at_builtin;refine Xu rfl (.tmp 33) (.tmp 35) rfl E hfit (Zv.below HO3.out ((Below.refl _ _).alloc (Nat.le_refl _) _)) rfl w3.heap.size 1 HEA.out rfl (by rw [HLen.out];omega) (by have hzz:=HG3.out.size;simp;omega) ?_;intro v1 w9 ho9 hg9;have HO9:Hid (Zv w9 w.heap.size v1 (L ++ [E])):=ho9;have HS9:Hid (Src w9 g v l (K+1+1)):=Z1q (HS3.out.alloc _) HS.out.2.2.1 (by have hzz:=HG3.out.size;simp;omega) hg9 HO3.out hg0;have HG9:Hid (w.grownBy w9 (some g)):=Z1n (Zg HG3.out (World.grownBy_alloc _ _ _)) hg9 HO3.out;clear ho9 hg9))
     go_roundw
     case rel=>exact ⟨j+1,by omega,by go_num,by rw [HD.out],by rw [HD.out];exact HO9.out,by rw [HD.out];exact HS9.out,HG9.out⟩
     case measure=>simp [intOf];omega
    ·have n6:((p6:Int) != 0)=true:=by rw [bne_iff_ne];omega
     have HE:Hid (E=⟨(TT+1),m1,m2,m3,m4,m5,m6⟩):=(show E=⟨(TT+1),m1,m2,m3,m4,m5,m6⟩ by rw [hE6,if_neg h6]);obtain rfl:KN=KC:=by rw [hK6,if_neg h6]
     clear hE6 hK6
     go_wp2_with (first
      |(go_at_call 53;clear y1;refine Calls.mono HP5.out ?_;rintro e w1 ⟨rfl,hs1,hg1⟩;have z1:=hg1.size;have HS1:Hid (Src w1 g v l (K+1)):=hs1;have HG1:Hid (w.grownBy w1 (some g)):=Zg HGR.out hg1;have HO1:Hid (Zv w1 w.heap.size (.slice la j lc) L):=HO.out.grown hg1 hg0;clear hs1 hg1)
      |(have hBA:=HS1;refine Y2 118 (.tmp 9) _ rfl ?_;clear hBA;refine Zz rfl 118 (.tmp 9) _ rfl (w1.heap.size) rfl rfl rfl Xy rfl rfl (by simp [Value.oneCell']) ?_;obtain ⟨W2,hW2⟩:∃ W2,W2=w1.alloc (.cells #[.int .i64 (TT+1),.int .i64 0,.int .i64 0,.int .i64 0,.string ⟨#[]⟩,.string ⟨#[]⟩,.string ⟨#[]⟩] 118):=⟨_,rfl⟩;rw [<-hW2];have HS2:Hid (Src W2 g v l (K+1)):=(by rw [hW2];exact HS1.out.alloc _);have HE2:Hid (Blk W2 w1.heap.size #[.int .i64 (TT+1),.int .i64 0,.int .i64 0,.int .i64 0,.string ⟨#[]⟩,.string ⟨#[]⟩,.string ⟨#[]⟩] 118):=(by rw [hW2];exact Blk.new _ _ _);have HG2:Hid (w.grownBy W2 (some g)):=(by rw [hW2];exact Zg HG1.out (World.grownBy_alloc _ _ _));have HO2:Hid (Zv W2 w.heap.size (.slice la j lc) L):=(by rw [hW2];exact HO1.out.below ((Below.refl _ _).alloc (Nat.le_refl _) _));have hol:Hid (∀ q,(Value.slice la j lc).ownBlock=some q->q<w1.heap.size):=(fun q hq=>(HO1.out.2.lt q hq).2);clear hW2)
      |(go_at_call 53;refine Calls.mono (HP6 _ HS2.out).out ?_;rintro e w3 ⟨rfl,hs3,hg3⟩;have z3:=hg3.size;have z2:=HE2.out.lt;have HS3:Hid (Src w3 g v l (K+1+1)):=hs3;have HE3:Hid (Blk w3 w1.heap.size _ 118):=HE2.out.grown hg3 (by omega);have HG3:Hid (w.grownBy w3 (some g)):=Zg HG2.out hg3;have HO3:Hid (Zv w3 w.heap.size (.slice la j lc) L):=HO2.out.grown hg3 hg0;clear hs3 hg3)
      |(go_at_call 105;refine Calls.mono (HCm _ HS3.out).out ?_;rintro e w4 ⟨rfl,hs4,hg4⟩;have z4:=hg4.size;have z4b:=HE3.out.lt;have HS4:Hid (Src w4 g v l KN):=hs4;have HE4:Hid (Blk w4 w1.heap.size _ 118):=HE3.out.grown hg4 (by omega);have HG4:Hid (w.grownBy w4 (some g)):=Zg HG3.out hg4;have HO4:Hid (Zv w4 w.heap.size (.slice la j lc) L):=HO3.out.grown hg4 hg0;have hTh:Hid (w4.there w1.heap.size 1 6):=Z22 HE4.out.there 1 6 (by simp);clear hs4 hg4)
      |(have hBA:=HE4;refine Z20 44 (.tmp 32) (.tmp 31) rfl ?_;clear hBA;refine wpList_store_mid rfl 44 (.tmp 32) (.tmp 31) rfl (w1.heap.size) 1 #[.int .i64 m1,.int .i64 m2,.int .i64 m3,.string m4,.string m5,.string m6] rfl rfl hTh.out infoCmd6 (by simp [Value.oneCell']) ?_;obtain ⟨U,hU⟩:∃ U,U=w4.setCells w1.heap.size 1 [.int .i64 m1,.int .i64 m2,.int .i64 m3,.string m4,.string m5,.string m6]:=⟨_,rfl⟩;rw [show w4.setCells w1.heap.size 1 (#[.int .i64 m1,.int .i64 m2,.int .i64 m3,.string m4,.string m5,.string m6]:Array Value).toList=U from hU.symm];have hzU:Hid (U.heap.size=w4.heap.size):=(by rw [hU];exact Z1h _ _ _);have HEU:Hid (Blk U w1.heap.size #[.int .i64 (TT+1),.int .i64 m1,.int .i64 m2,.int .i64 m3,.string m4,.string m5,.string m6] 118):=(by rw [hU];exact (((((HE4.out.set 1 _).set 2 _).set 3 _).set 4 _).set 5 _).set 6 _);have HSU:Hid (Src U g v l KN):=(by rw [hU];exact srcCells HS4.out HE4.out (by omega));have HGU:Hid (w.grownBy U (some g)):=(by rw [hU];exact Z32 HG4.out (by omega));have HOU:Hid (Zv U w.heap.size (.slice la j lc) L):=(by rw [hU];exact HO4.out.block fun q hq=>Z11 (by have:=hol.out q hq;omega) _ _ _);clear hU)
      |(have hBA:=HEU;refine Zw 118 (.tmp 9) rfl ?_;clear hBA;refine Zk rfl 118 (.tmp 9) rfl (w1.heap.size) rfl HEU.out Tryz.underlying118 rfl Xy rfl ?_;have HEA:Hid (Xv (U.alloc (.cells #[.int .i64 (TT+1),.int .i64 m1,.int .i64 m2,.int .i64 m3,.string m4,.string m5,.string m6] 118)) U.heap.size 0 E):=(by rw [HE.out];exact Z0t U ⟨(TT+1),m1,m2,m3,m4,m5,m6⟩))
      |(at_builtin;refine Xu rfl (.tmp 33) (.tmp 35) rfl E hfit (Zv.below HOU.out ((Below.refl _ _).alloc (Nat.le_refl _) _)) rfl U.heap.size 1 HEA.out rfl (by rw [HLen.out];omega) (by have hzz:=HGU.out.size;simp;omega) ?_;intro v1 w9 ho9 hg9;have HO9:Hid (Zv w9 w.heap.size v1 (L ++ [E])):=ho9;have HS9:Hid (Src w9 g v l KN):=Z1q (HSU.out.alloc _) HS.out.2.2.1 (by have hzz:=HGU.out.size;simp;omega) hg9 HOU.out hg0;have HG9:Hid (w.grownBy w9 (some g)):=Z1n (Zg HGU.out (World.grownBy_alloc _ _ _)) hg9 HOU.out;clear ho9 hg9))
     go_roundw
     case rel=>exact ⟨j+1,by omega,by go_num,by rw [HD.out],by rw [HD.out];exact HO9.out,by rw [HD.out];exact HS9.out,HG9.out⟩
     case measure=>simp [intOf];omega
  ·obtain rfl:j=n:=by omega
   go_wp2;go_ret;exact ⟨_,rfl,ho,hs,hgr⟩
theorem count_set:∀(l:List Bool) (i:Nat),l[i]? = some false->(l.set i true).count false+1=l.count false
 | [],i,h=>by simp at h
 | b :: l,0,h=>by
  simp at h;subst h;simp
 | b :: l,i+1,h=>by
  have:=count_set l i (by simpa using h);simp only [List.set_cons_succ,List.count_cons];omega
theorem Zx {md:Region.Mode}{ops:Array Oper}{L:Array Bool}{i:Nat}(hs:L.size=ops.size)(h:i∈Region.ready md ops L):i<ops.size/\L[i]? = some false:=by
 have h1:=List.mem_filter.1 h;have hi:i<ops.size:=List.mem_range.1 h1.1;refine ⟨hi,?_⟩;have h2:=h1.2;simp only [Bool.and_eq_true] at h2;have h3:=h2.1;rw [Array.getElem?_eq_getElem (by omega)];simp [Array.getD,show i<L.size by omega] at h3;simp [h3]
def needs (md:Region.Mode)(ops:Array Oper)(i:Nat):List Nat:=((ops[i]?).map fun o=>(o.after.toList.filter (Region.binds md)).map (·.on)).getD []
theorem Z7 {md:Region.Mode}{ops:Array Oper}{L:Array Bool}{i j:Nat}(h:i∈Region.ready md ops L)(hj:j∈needs md ops i):L.getD j false=true:=by
 have h1:=List.mem_filter.1 h;have hi:i<ops.size:=List.mem_range.1 h1.1;have h2:=h1.2;simp only [Bool.and_eq_true] at h2;have h3:=h2.2;unfold needs at hj;rw [Array.getElem?_eq_getElem hi] at h3 hj;simp only [Option.map_some,Option.getD_some] at h3 hj;obtain ⟨e,he,rfl⟩:=List.mem_map.1 hj;obtain ⟨he1,he2⟩:=List.mem_filter.1 he;have h4:=(Array.all_eq_true_iff_forall_mem.1 h3) e (by simpa using he1);simpa [he2] using h4
theorem wpAny_inv {P:Program}{ops:Array Oper}{Q:Exit->Act->World->Prop}{md:Region.Mode}(J:Array Bool->Act->World->Prop)
  (hstep:∀ L a w i,L.size=ops.size->i∈Region.ready md ops L->J L a w->wpOp P ops Q i (J (L.setIfInBounds i true)) a w)
  (hend:∀ L a w,L.size=ops.size->Region.ready md ops L = []->J L a w->Q .normal a w) :
  ∀(fuel:Nat) (L:Array Bool) (a:Act) (w:World),L.size=ops.size->L.toList.count false<=fuel->J L a w->wpAny P md ops Q fuel L a w
 | 0,L,a,w,hs,hc,hJ=>by
  have hr:Region.ready md ops L = []:=by
   cases h:Region.ready md ops L with
   | nil=>rfl
   | cons x xs=>
    obtain ⟨h1,h2⟩:=Zx (md:=md) hs (show x∈Region.ready md ops L by rw [h];simp);have:false∈L.toList:=List.mem_iff_getElem?.2 ⟨x,by simpa using h2⟩;have:=List.count_pos_iff.2 this;omega
  exact ⟨hr,hend L a w hs hr hJ⟩
 | fuel+1,L,a,w,hs,hc,hJ=>by
  refine ⟨fun h=>hend L a w hs h hJ,fun i hi=>?_⟩;obtain ⟨h1,h2⟩:=Zx hs hi;refine wpOp_mono (fun a' w' hJ'=>wpAny_inv J hstep hend fuel _ a' w' (by simpa using hs) ?_ hJ') (hstep L a w i hs hi hJ);have:=count_set L.toList i (by simpa using h2);simp only [Array.toList_setIfInBounds];omega
theorem Y7 {P:Program}{id:Nat}{ops:Array Oper}{Q:Exit->Act->World->Prop}{a:Act}{w:World}(hm:P.follows .mixedOrders=true)(J:Array Bool->Act->World->Prop)
  (h0:J (Array.replicate ops.size false) a w.drew)
  (hstep:∀ L a w i,L.size=ops.size->i∈Region.ready .any ops L->J L a w->wpOp P ops Q i (J (L.setIfInBounds i true)) a w)
  (hend:∀ L a w,L.size=ops.size->Region.ready .any ops L = []->J L a w->Q .normal a w):(Code.region id ops true).wp P Q a w:=
 wp_region_any hm (wpAny_inv J hstep hend ops.size _ a _ (by simp) (by simp) h0)
theorem wp_named {P:Program}{c:Code}{Q:Exit->Act->World->Prop}{a:Act}{w:World}(h:∀ a0,a0=a->c.wp P Q a0 w):c.wp P Q a w:=h a rfl
theorem Z8 {P:Program}{ops:Array Oper}{Q:Exit->Act->World->Prop}{i:Nat}{K:Act->World->Prop}{a:Act}{w:World}{o:Oper}(hi:ops[i]? = some o)(hg:o.guard=none)(h:o.wp P a w K Q):wpOp P ops Q i K a w:=by
 unfold wpOp;rw [hi];simp only [Region.wanted,hg,if_true];exact .inl h
theorem Z2m (L:Array Bool)(i j:Nat)(hi:i<L.size):(L.setIfInBounds i true).getD j false=(decide (j=i) || L.getD j false):=by
 simp only [Array.getD_eq_getD_getElem?,Array.getElem?_setIfInBounds];by_cases h:i=j
 ·subst h;simp [hi]
 ·have h':¬ j=i:=fun e=>h e.symm
  simp [h,h']
theorem Z0 {L:Array Bool}{i j:Nat}(h:(L.setIfInBounds i true).getD j false=true)(hi:i<L.size)(hne:j≠i):L.getD j false=true:=by
 rw [Z2m L i j hi] at h;simpa [hne] using h
theorem Zh {L:Array Bool}{i j:Nat}(h:L.getD j false=true)(hi:i<L.size):(L.setIfInBounds i true).getD j false=true:=by
 rw [Z2m L i j hi,h];simp
theorem Yo {L:Array Bool}{i:Nat}(hi:i<L.size):(L.setIfInBounds i true).getD i false=true:=by
 rw [Z2m L i i hi];simp
theorem readyBit {md:Region.Mode}{ops:Array Oper}{L:Array Bool}{i:Nat}(hs:L.size=ops.size)(h:i∈Region.ready md ops L)(hd:L.getD i false=true):False:=by
 have hn:=(Zx hs h).2;rw [Array.getD_eq_getD_getElem?,hn] at hd;simp at hd
theorem Zl {n j:Nat}(h:(Array.replicate n false).getD j false=true):False:=by
 simp only [Array.getD_eq_getD_getElem?,Array.getElem?_replicate] at h;split at h <;> simp at h
theorem Yq {md:Region.Mode}{ops:Array Oper}{L:Array Bool}(hs:L.size=ops.size)(h:Region.ready md ops L = [])(hord:(List.range ops.size).all (fun i=>(needs md ops i).all (· < i))=true):∀ j,j<ops.size->L.getD j false=true:=by
 intro j
 induction j using Nat.strongRecOn with
 | _ j ih=>
  intro hj
  cases hb:L.getD j false with
  | true=>rfl
  | false=>
   exfalso
   have hm:j∈Region.ready md ops L:=by
    refine List.mem_filter.2 ⟨List.mem_range.2 hj,?_⟩;have hjL:j<L.size:=by omega
    rw [Array.getElem?_eq_getElem hj];simp only [Option.map_some,Option.getD_some,Bool.and_eq_true];refine ⟨?_,Array.all_eq_true_iff_forall_mem.2 fun e he=>?_⟩
    ·simp only [Array.getD,hjL,dif_pos] at hb ⊢
     simpa using hb
    ·cases hbd:Region.binds md e with
     | false=>rfl
     | true=>
      have hn:e.on∈needs md ops j:=by
       unfold needs;rw [Array.getElem?_eq_getElem hj];simp only [Option.map_some,Option.getD_some];exact List.mem_map.2 ⟨e,List.mem_filter.2 ⟨by simpa using he,hbd⟩,rfl⟩
      have hl:e.on<j:=by
       have h1:=List.all_eq_true.1 hord j (List.mem_range.2 hj);simpa using List.all_eq_true.1 h1 e.on hn
      simp [ih e.on hl (by omega)]
   rw [h] at hm;cases hm
theorem Y4 {a:Act}{w:World}{K:Act->World->Prop}{Q:Exit->Act->World->Prop}{o:Oper}{N:FuncId}{ags:Array Operand}{ts:Array TypeId}(ho:o.op=.call ⟨.value (.func N),ags,ts⟩)
  (hN:∀ args w,(callFunc N args).run Tryz.prog w=.ok (.enter N args) w) (args:Array Value) (hA:ags.map a.eval=args)
  (hc:Calls Tryz.prog N args w fun e w'=>∃ v,e=.returned v/\K (a.put o.dst v) w'):o.wp Tryz.prog a w K Q:=by
 subst hA;unfold Oper.wp execOp;simp only [ho,resolve,Act.eval,Deferred.ofValue,invoke];go_simp;exact hc.mono fun e w' ⟨v,hv,hk⟩=>by subst hv;exact hk
theorem Zd {a:Act}{w:World}{K:Act->World->Prop}{Q:Exit->Act->World->Prop}{o:Oper}{v:Value}(he:(execOp a.eval o).run Tryz.prog w=.ok (.value v) w)(h:K (a.put o.dst v) w):o.wp Tryz.prog a w K Q:=by
 unfold Oper.wp;rw [he];exact h
theorem Y0 {a:Act}{w:World}{K:Act->World->Prop}{Q:Exit->Act->World->Prop}{o:Oper}(x:Operand)(ho:o.op=.move x∨o.op=.assign x)(h:K (a.put o.dst (a.eval x)) w):o.wp Tryz.prog a w K Q:=by
 unfold Oper.wp execOp;rcases ho with ho | ho <;> simp only [ho,Sem.run_pure] <;> exact h
theorem wp_alloc_go {a:Act}{w:World}{K:Act->World->Prop}{Q:Exit->Act->World->Prop}{o:Oper}(T:TypeId)(Z:Array Value)(ho:o.op=.alloc T)
  (hz:∀ u:World,(Instr.alloc T true (.tuple #[])).run Tryz.prog u=.ok (.pointer (some ⟨u.heap.size,0,none⟩)) (u.alloc (.cells Z T)))
  (h:K (a.put o.dst (.pointer (some ⟨w.heap.size,0,none⟩))) (w.alloc (.cells Z T))):o.wp Tryz.prog a w K Q:=by
 unfold Oper.wp execOp;simp only [ho,Sem.run_bind,hz,Result.andThen_ok,Sem.run_pure];exact h
def frame (a0:Act)(ds:List Nat)(x:Nat->Value):Act:={ a0 with tmps:=(a0.tmps.toList.zipIdx.map fun p=>if ds.contains p.2 then x p.2 else p.1).toArray }
theorem Z0p (a0:Act)(ds:List Nat)(x:Nat->Value)(t:Nat):(frame a0 ds x).tmps[t]? = a0.tmps[t]?.map fun v=>if ds.contains t then x t else v:=by
 simp only [frame,List.getElem?_toArray,List.getElem?_map,List.getElem?_zipIdx,Array.getElem?_toList,Option.map_map];cases a0.tmps[t]? <;> simp
theorem Z1z (a0:Act)(ds:List Nat)(x:Nat->Value):(frame a0 ds x).tmps.size=a0.tmps.size:=by simp [frame]
theorem Zc (a0:Act)(ds:List Nat)(x:Nat->Value)(t:Nat)(h:ds.contains t=false):(frame a0 ds x).eval (.tmp t)=a0.eval (.tmp t):=by
 have:=Z0p a0 ds x t;simp only [Act.eval,Array.getD_eq_getD_getElem?,this,h];cases a0.tmps[t]? <;> simp
theorem Z4 (a0:Act)(ds:List Nat)(x:Nat->Value)(t:Nat)(h:ds.contains t=true)(hlt:t<a0.tmps.size):(frame a0 ds x).eval (.tmp t)=x t:=by
 have:=Z0p a0 ds x t;rw [Array.getElem?_eq_getElem hlt] at this;simp only [Act.eval,Array.getD_eq_getD_getElem?,this,h];simp
def upd (x:Nat->Value)(k:Nat)(v:Value):Nat->Value:=fun t=>if t=k then v else x t
theorem Zb (x:Nat->Value)(k:Nat)(v:Value):upd x k v k=v:=by simp [upd]
theorem Z6 (x:Nat->Value)(k t:Nat)(v:Value)(h:t≠k):upd x k v t=x t:=by simp [upd,h]
theorem ku {P:Prop}{L:Array Bool}{i j:Nat}(hk:L.getD j false=true->P)(hi:i<L.size)(hne:j≠i)(h:(L.setIfInBounds i true).getD j false=true):P:=hk (Z0 h hi hne)
theorem ke {x:Nat->Value}{t k:Nat}{v V:Value}{L:Array Bool}{i j:Nat}(hk:L.getD j false=true->x t=V)(hi:i<L.size)(hne:j≠i)(ht:t≠k)(h:(L.setIfInBounds i true).getD j false=true):upd x k v t=V:=(Z6 x k t v ht).trans (hk (Z0 h hi hne))
theorem act_ext {a b:Act}(h1:∀ t:Nat,a.tmps[t]? = b.tmps[t]?)(h2:a.defers=b.defers):a=b:=by
 obtain ⟨t1,d1⟩:=a;obtain ⟨t2,d2⟩:=b;have:t1=t2:=Array.ext_getElem? h1;subst this;subst h2;rfl
theorem Z9 (a0:Act)(ds:List Nat)(x:Nat->Value)(k:Nat)(v:Value)(h:ds.contains k=true):(frame a0 ds x).put (some k) v=frame a0 ds (upd x k v):=by
 refine act_ext (fun t=>?_) rfl;rw [Z0p];show ((frame a0 ds x).tmps.setIfInBounds k v)[t]? = _;rw [Array.getElem?_setIfInBounds];by_cases e:k=t
 ·subst e
  rw [Z1z];by_cases hl:k<a0.tmps.size
  ·rw [if_pos rfl,if_pos hl,Array.getElem?_eq_getElem hl]
   simp only [Option.map_some,h,if_true,upd]
  ·rw [if_pos rfl,if_neg hl,Array.getElem?_eq_none (by omega)]
   rfl
 ·rw [if_neg e,Z0p]
  have e':¬ t=k:=fun h=>e h.symm
  simp [upd,e']
theorem Yk (a0:Act)(ds:List Nat):a0=frame a0 ds (fun t=>a0.tmps.getD t undef):=by
 refine act_ext (fun t=>?_) rfl;rw [Z0p]
 cases h:a0.tmps[t]? with
 | none=>rfl
 | some v=>simp [Array.getD_eq_getD_getElem?,h]
theorem Jm (a b:Int)(w:World):Calls Tryz.prog 94 #[.int .i64 a,.int .i64 b] w fun e w'=>e=.returned (.int .i64 (max a b))/\w'=w:=by
 by_cases h:a > b
 ·have e:max a b=a:=by omega
  rw [e];go_enter Tryz.func94,Tryz.ntmps94;go_wp2;go_ret;exact ⟨rfl,rfl⟩
 ·have e:max a b=b:=by omega
  rw [e];go_enter Tryz.func94,Tryz.ntmps94;go_wp2;go_ret;exact ⟨rfl,rfl⟩
theorem Xf (a b:Int)(w:World):Calls Tryz.prog 55 #[.int .i64 a,.int .i64 b] w fun e w'=>e=.returned (.int .i64 (min a b))/\w'=w:=by
 by_cases h:a<b
 ·rw [show min a b=a by omega]
  go_enter Tryz.func55,Tryz.ntmps55;go_wp2;go_ret;exact ⟨rfl,rfl⟩
 ·rw [show min a b=b by omega]
  go_enter Tryz.func55,Tryz.ntmps55;go_wp2;go_ret;exact ⟨rfl,rfl⟩
theorem l1size_any (a:Option Addr)(n cap:Nat)(hn:n<=maxLen)(w:World):Calls Tryz.prog 52 #[.slice a n cap] w fun e w'=>e=.returned (.int .i64 ((min n 400:Nat):Int))/\w'=w:=by
 have h:=fun w=>Xf (n:Int) 400 w
 rw [show min (n:Int) 400=((min n 400:Nat):Int) by omega] at h;have H:Hid (∀ w:World,Calls Tryz.prog 55 #[.int .i64 n,.int .i64 400] w fun e w'=>e=.returned (.int .i64 ((min n 400:Nat):Int))/\w'=w):=h;clear h;generalize min n 400=m at H ⊢;go_enter Tryz.func52,Tryz.ntmps52
 go_wp2_with (go_at_call 55;refine Calls.mono (H.out _) ?_;rintro e w1 ⟨rfl,rfl⟩)
 go_ret;exact ⟨rfl,rfl⟩
def inB (n lo hi:Int):Bool:=decide (lo<=n) && decide (n<=hi)
theorem Zr (n lo hi:Int):inB n lo hi=true↔lo<=n/\n<=hi:=by simp [inB]
theorem Z02 (n lo hi:Int):inB n lo hi=false↔(n<lo∨hi<n):=by
 by_cases h1:lo<=n <;> by_cases h2:n<=hi <;> simp [inB,h1,h2] <;> omega
theorem Ze (n lo hi:Int)(w:World) :
  Calls Tryz.prog 70 #[.int .i64 n,.int .i64 lo,.int .i64 hi] w fun e w'=>e=.returned (.bool (inB n lo hi))/\w'=w:=by
 by_cases h1:lo<=n
 ·by_cases h2:n<=hi
  ·have hb:inB n lo hi=true:=by simp [inB,h1,h2]
   rw [hb];go_enter Tryz.func70,Tryz.ntmps70;go_wp2;go_ret;exact ⟨rfl,rfl⟩
  ·have hb:inB n lo hi=false:=by simp [inB,h1];omega
   rw [hb];go_enter Tryz.func70,Tryz.ntmps70;go_wp2;go_ret;exact ⟨by simp,rfl⟩
 ·have hb:inB n lo hi=false:=by simp [inB];omega
  rw [hb];go_enter Tryz.func70,Tryz.ntmps70;go_wp2;go_ret;exact ⟨rfl,rfl⟩
theorem Za (n lo hi:Int)(w:World) :
  Calls Tryz.prog 56 #[.int .i64 n,.int .i64 lo,.int .i64 hi] w fun e w'=>e=.returned (.bool (inB n lo hi))/\w'=w:=by
 by_cases h1:lo<=n
 ·by_cases h2:n<=hi
  ·have hb:inB n lo hi=true:=by simp [inB,h1,h2]
   rw [hb];go_enter Tryz.func56,Tryz.ntmps56;go_wp2;go_ret;exact ⟨rfl,rfl⟩
  ·have hb:inB n lo hi=false:=by simp [inB,h1];omega
   rw [hb];go_enter Tryz.func56,Tryz.ntmps56;go_wp2;go_ret;exact ⟨by simp,rfl⟩
 ·have hb:inB n lo hi=false:=by simp [inB];omega
  rw [hb];go_enter Tryz.func56,Tryz.ntmps56;go_wp2;go_ret;exact ⟨rfl,rfl⟩
def sizB (n:Int):Bool:=n == 3 || n == 5 || n == 7
theorem Z01 (n:Int)(w:World):Calls Tryz.prog 108 #[.int .i64 n] w fun e w'=>e=.returned (.bool (sizB n))/\w'=w:=by
 by_cases h3:n=3
 ·subst h3
  go_enter Tryz.func108,Tryz.ntmps108;go_wp2;go_ret;exact ⟨rfl,rfl⟩
 ·by_cases h5:n=5
  ·subst h5
   go_enter Tryz.func108,Tryz.ntmps108;go_wp2;go_ret;exact ⟨rfl,rfl⟩
  ·go_enter Tryz.func108,Tryz.ntmps108
   go_wp2;go_ret;exact ⟨by simp [sizB,h3,h5],rfl⟩
theorem Z0z (n:Int)(w:World):Calls Tryz.prog 98 #[.int .i64 n] w fun e w'=>e=.returned (.bool (sizB n))/\w'=w:=by
 by_cases h3:n=3
 ·subst h3
  go_enter Tryz.func98,Tryz.ntmps98;go_wp2;go_ret;exact ⟨rfl,rfl⟩
 ·by_cases h5:n=5
  ·subst h5
   go_enter Tryz.func98,Tryz.ntmps98;go_wp2;go_ret;exact ⟨rfl,rfl⟩
  ·go_enter Tryz.func98,Tryz.ntmps98
   go_wp2;go_ret;exact ⟨by simp [sizB,h3,h5],rfl⟩
def Y3 (id sz el bt:Int):Bool:=sizB sz && (inB id 1 sz && (inB el 2 1000 && inB bt 1 el))
theorem Z1t (id sz el bt:Int)(w:World):Calls Tryz.prog 66 #[.int .i64 id,.int .i64 sz,.int .i64 el,.int .i64 bt] w fun e w'=>e=.returned (.bool (Y3 id sz el bt))/\w'=w:=by
 have g1:True:=trivial;have g2:True:=trivial;cases h1:sizB sz
 ·have e:Y3 id sz el bt=false:=by simp [Y3,h1]
  rw [e];go_enter Tryz.func66,Tryz.ntmps66
  go_wp2_with (go_at_call 108;refine (Z01 _ _).mono ?_;rintro e w1 ⟨rfl,hw⟩;obtain rfl:=hw.symm;rw [h1])
  go_ret;exact ⟨rfl,rfl⟩
 ·cases h2:inB id 1 sz
  ·have e:Y3 id sz el bt=false:=by simp [Y3,h2]
   rw [e];go_enter Tryz.func66,Tryz.ntmps66
   go_wp2_with (first
    |(go_at_call 108;refine (Z01 _ _).mono ?_;rintro e w1 ⟨rfl,hw⟩;obtain rfl:=hw.symm;rw [h1])
    |(go_at_call 70;clear g1;refine (Ze id 1 sz _).mono ?_;rintro e w1 ⟨rfl,hw⟩;obtain rfl:=hw.symm;rw [h2]))
   go_ret;exact ⟨rfl,rfl⟩
  ·cases h3:inB el 2 1000
   ·have e:Y3 id sz el bt=false:=by simp [Y3,h3]
    rw [e];go_enter Tryz.func66,Tryz.ntmps66
    go_wp2_with (first
     |(go_at_call 108;refine (Z01 _ _).mono ?_;rintro e w1 ⟨rfl,hw⟩;obtain rfl:=hw.symm;rw [h1])
     |(go_at_call 70;clear g1;refine (Ze id 1 sz _).mono ?_;rintro e w1 ⟨rfl,hw⟩;obtain rfl:=hw.symm;rw [h2])
     |(go_at_call 70;clear g2;refine (Ze el 2 1000 _).mono ?_;rintro e w1 ⟨rfl,hw⟩;obtain rfl:=hw.symm;rw [h3]))
    go_ret;exact ⟨rfl,rfl⟩
   ·have e:Y3 id sz el bt=inB bt 1 el:=by simp [Y3,h1,h2,h3]
    rw [e];go_enter Tryz.func66,Tryz.ntmps66
    go_wp2_with (first
     |(go_at_call 108;refine (Z01 _ _).mono ?_;rintro e w1 ⟨rfl,hw⟩;obtain rfl:=hw.symm;rw [h1])
     |(go_at_call 70;clear g1;refine (Ze id 1 sz _).mono ?_;rintro e w1 ⟨rfl,hw⟩;obtain rfl:=hw.symm;rw [h2])
     |(go_at_call 70;clear g2;refine (Ze el 2 1000 _).mono ?_;rintro e w1 ⟨rfl,hw⟩;obtain rfl:=hw.symm;rw [h3])
     |(go_at_call 70;refine (Ze bt 1 el _).mono ?_;rintro e w1 ⟨rfl,hw⟩;obtain rfl:=hw.symm))
    go_ret;exact ⟨rfl,rfl⟩
theorem Zu (id sz el bt:Int)(w:World):Calls Tryz.prog 58 #[.int .i64 id,.int .i64 sz,.int .i64 el,.int .i64 bt] w fun e w'=>e=.returned (.bool (Y3 id sz el bt))/\w'=w:=by
 have g1:True:=trivial;have g2:True:=trivial;cases h1:sizB sz
 ·have e:Y3 id sz el bt=false:=by simp [Y3,h1]
  rw [e];go_enter Tryz.func58,Tryz.ntmps58
  go_wp2_with (go_at_call 98;refine (Z0z _ _).mono ?_;rintro e w1 ⟨rfl,hw⟩;obtain rfl:=hw.symm;rw [h1])
  go_ret;exact ⟨rfl,rfl⟩
 ·cases h2:inB id 1 sz
  ·have e:Y3 id sz el bt=false:=by simp [Y3,h2]
   rw [e];go_enter Tryz.func58,Tryz.ntmps58
   go_wp2_with (first
    |(go_at_call 98;refine (Z0z _ _).mono ?_;rintro e w1 ⟨rfl,hw⟩;obtain rfl:=hw.symm;rw [h1])
    |(go_at_call 56;clear g1;refine (Za id 1 sz _).mono ?_;rintro e w1 ⟨rfl,hw⟩;obtain rfl:=hw.symm;rw [h2]))
   go_ret;exact ⟨rfl,rfl⟩
  ·cases h3:inB el 2 1000
   ·have e:Y3 id sz el bt=false:=by simp [Y3,h3]
    rw [e];go_enter Tryz.func58,Tryz.ntmps58
    go_wp2_with (first
     |(go_at_call 98;refine (Z0z _ _).mono ?_;rintro e w1 ⟨rfl,hw⟩;obtain rfl:=hw.symm;rw [h1])
     |(go_at_call 56;clear g1;refine (Za id 1 sz _).mono ?_;rintro e w1 ⟨rfl,hw⟩;obtain rfl:=hw.symm;rw [h2])
     |(go_at_call 56;clear g2;refine (Za el 2 1000 _).mono ?_;rintro e w1 ⟨rfl,hw⟩;obtain rfl:=hw.symm;rw [h3]))
    go_ret;exact ⟨rfl,rfl⟩
   ·have e:Y3 id sz el bt=inB bt 1 el:=by simp [Y3,h1,h2,h3]
    rw [e];go_enter Tryz.func58,Tryz.ntmps58
    go_wp2_with (first
     |(go_at_call 98;refine (Z0z _ _).mono ?_;rintro e w1 ⟨rfl,hw⟩;obtain rfl:=hw.symm;rw [h1])
     |(go_at_call 56;clear g1;refine (Za id 1 sz _).mono ?_;rintro e w1 ⟨rfl,hw⟩;obtain rfl:=hw.symm;rw [h2])
     |(go_at_call 56;clear g2;refine (Za el 2 1000 _).mono ?_;rintro e w1 ⟨rfl,hw⟩;obtain rfl:=hw.symm;rw [h3])
     |(go_at_call 56;refine (Za bt 1 el _).mono ?_;rintro e w1 ⟨rfl,hw⟩;obtain rfl:=hw.symm))
    go_ret;exact ⟨rfl,rfl⟩
def limV (op:Int):Value:=
 if op=0 then .agg #[.int .i64 0,.int .i64 0,.int .i64 0,.int .i64 0,.int .i64 0,.int .i64 0]
 else .agg #[.int .i64 1,.int .i64 8,.int .i64 1073741824,.int .i64 64,.int .i64 (if op=2∨op=4 then 64 else 0),.int .i64 (if op=4 then 64 else 0)]
theorem limitsOf_any (op:Int)(w:World) :
  Calls Tryz.prog 178 #[.int .i64 op] w fun e w'=>e=.returned (limV op)/\Below w.heap.size w w':=by
 by_cases h0:op=0
 ·subst h0
  have e:limV 0=.agg #[.int .i64 0,.int .i64 0,.int .i64 0,.int .i64 0,.int .i64 0,.int .i64 0]:=rfl;rw [e];go_enter Tryz.func178,Tryz.ntmps178;go_wp2;exact bodyPost_ret (v:=.agg #[.int .i64 0,.int .i64 0,.int .i64 0,.int .i64 0,.int .i64 0,.int .i64 0]) (by simp [results,Tryz.results178,go_sem]) rfl ⟨rfl,(Below.refl _ _).alloc (Nat.le_refl _) _⟩
 by_cases h2:op=2
 ·subst h2
  have e:limV 2=.agg #[.int .i64 1,.int .i64 8,.int .i64 1073741824,.int .i64 64,.int .i64 64,.int .i64 0]:=rfl;rw [e];go_enter Tryz.func178,Tryz.ntmps178;go_wp2;exact bodyPost_ret (v:=.agg #[.int .i64 1,.int .i64 8,.int .i64 1073741824,.int .i64 64,.int .i64 64,.int .i64 0]) (by simp [results,Tryz.results178,go_sem]) rfl ⟨rfl,((Below.refl _ _).alloc (Nat.le_refl _) _).alloc (by simp) _⟩
 by_cases h4:op=4
 ·subst h4
  have e:limV 4=.agg #[.int .i64 1,.int .i64 8,.int .i64 1073741824,.int .i64 64,.int .i64 64,.int .i64 64]:=rfl;rw [e];go_enter Tryz.func178,Tryz.ntmps178;go_wp2;exact bodyPost_ret (v:=.agg #[.int .i64 1,.int .i64 8,.int .i64 1073741824,.int .i64 64,.int .i64 64,.int .i64 64]) (by simp [results,Tryz.results178,go_sem]) rfl ⟨rfl,((Below.refl _ _).alloc (Nat.le_refl _) _).alloc (by simp) _⟩
 ·have e:limV op=.agg #[.int .i64 1,.int .i64 8,.int .i64 1073741824,.int .i64 64,.int .i64 0,.int .i64 0]:=by simp [limV,h0,h2,h4]
  rw [e];have n2:(op == 2)=false:=by simpa using h2
  have n4:(op == 4)=false:=by simpa using h4
  go_enter Tryz.func178,Tryz.ntmps178;go_wp2
  all_goals exact bodyPost_ret (v:=.agg #[.int .i64 1,.int .i64 8,.int .i64 1073741824,.int .i64 64,.int .i64 0,.int .i64 0]) (by simp [results,Tryz.results178,go_sem]) rfl ⟨rfl,((Below.refl _ _).alloc (Nat.le_refl _) _).alloc (by simp) _⟩
def cmdF (cl sq op:Int)(k v o:Int):Int:=
 if op<0∨4<op then 1
 else if op=0 then (if cl≠0 then 2 else if sq≠0 then 3 else if k≠0 then 4 else if v≠0 then 5 else if o≠0 then 6 else 0)
 else if cl<1∨8<cl then 2 else if sq<1∨1073741824<sq then 3 else if k<1∨64<k then 4
 else if (if op=2∨op=4 then 64 else 0)<v then 5 else if (if op=4 then 64 else 0)<o then 6 else 0
def implF (cl sq op k v o l0 l1 l2 l3 l4 l5:Int):Int:=
 if inB op 0 4=false then 1 else if inB cl l0 l1=false then 2 else if inB sq l0 l2=false then 3 else if inB k l0 l3=false then 4 else if l4<v then 5 else if l5<o then 6 else 0
theorem Z3w (cl sq op:Int)(k v o:ByteArray)(l0 l1 l2 l3 l4 l5:Int)(hlim:limV op=.agg #[.int .i64 l0,.int .i64 l1,.int .i64 l2,.int .i64 l3,.int .i64 l4,.int .i64 l5])
  (hk:k.size<=maxLen) (hv:v.size<=maxLen) (ho:o.size<=maxLen) (w:World) :
  Calls Tryz.prog 144 #[.agg #[.int .i64 cl,.int .i64 sq,.int .i64 op,.string k,.string v,.string o]] w fun e w'=>
   e=.returned (.int .i64 (implF cl sq op k.size v.size o.size l0 l1 l2 l3 l4 l5))/\Below w.heap.size w w':=by
 unfold maxLen at hk hv ho;have HL:Hid (limV op=.agg #[.int .i64 l0,.int .i64 l1,.int .i64 l2,.int .i64 l3,.int .i64 l4,.int .i64 l5]):=hlim;clear hlim;go_enter Tryz.func144,Tryz.ntmps144
 go_wp2_with (first
  |(go_at_call 178;refine (limitsOf_any _ _).mono ?_;rintro e w1 ⟨rfl,hb⟩;rw [HL.out];obtain ⟨hc,hf⟩:=Z0b hb;have hz:w.heap.size<w1.heap.size:=(by have:=hb.size;simp at this;omega))
  |(go_at_call 70;refine (Ze _ _ _ _).mono ?_;rintro e w' ⟨rfl,rfl⟩))
 all_goals go_ret
 all_goals refine ⟨Yj ?_,(((Below.refl _ _).alloc (Nat.le_refl _) _).trans (hb.mono (by simp))).alloc (by omega) _⟩
 all_goals (clear hb hc hf HL;go_light;simp_all [implF];try omega)
theorem implF_zero (cl sq k v o:Int)(hk:0<=k)(hv:0<=v)(ho:0<=o):implF cl sq 0 k v o 0 0 0 0 0 0=cmdF cl sq 0 k v o:=by
 unfold implF cmdF;simp only [Z02];rw [if_neg (by omega:¬((0:Int)<0∨(4:Int)<0)),if_neg (by omega:¬((0:Int)<0∨(4:Int)<0)),if_pos trivial];exact ifc (by omega) rfl (ifc (by omega) rfl (ifc (by omega) rfl (ifc (by omega) rfl (ifc (by omega) rfl rfl))))
theorem implF_pos (cl sq op k v o:Int)(h:op≠0):implF cl sq op k v o 1 8 1073741824 64 (if op=2∨op=4 then 64 else 0) (if op=4 then 64 else 0)=cmdF cl sq op k v o:=by
 unfold implF cmdF;simp only [Z02];rw [if_neg h]
theorem Z31 (cl sq op:Int)(k v o:ByteArray)(hk:k.size<=maxLen)(hv:v.size<=maxLen)(ho:o.size<=maxLen)(w:World) :
  Calls Tryz.prog 144 #[.agg #[.int .i64 cl,.int .i64 sq,.int .i64 op,.string k,.string v,.string o]] w fun e w'=>
   e=.returned (.int .i64 (cmdF cl sq op k.size v.size o.size))/\Below w.heap.size w w':=by
 by_cases h:op=0
 ·subst h
  rw [<-implF_zero _ _ _ _ _ (Int.natCast_nonneg _) (Int.natCast_nonneg _) (Int.natCast_nonneg _)];exact Z3w cl sq 0 k v o 0 0 0 0 0 0 rfl hk hv ho w
 ·rw [<-implF_pos _ _ _ _ _ _ h]
  exact Z3w cl sq op k v o _ _ _ _ _ _ (by simp [limV,h]) hk hv ho w
theorem Ju (cl sq op:Int)(k v o:ByteArray)(hk:k.size<=maxLen)(hv:v.size<=maxLen)(ho:o.size<=maxLen)(w:World) :
  Calls Tryz.prog 125 #[.agg #[.int .i64 cl,.int .i64 sq,.int .i64 op,.string k,.string v,.string o]] w fun e w'=>
   e=.returned (.int .i64 (cmdF cl sq op k.size v.size o.size))/\Below w.heap.size w w':=by
 unfold maxLen at hk hv ho;go_enter Tryz.func125,Tryz.ntmps125;go_wp2
 all_goals go_ret
 all_goals refine ⟨Yj ?_,(Below.refl _ _).alloc (Nat.le_refl _) _⟩
 all_goals go_light
 all_goals (try (simp only [beq_iff_eq,beq_eq_false_iff_ne,bne_iff_ne,bne_eq_false_iff_eq,ne_eq] at *))
 all_goals first | (exfalso;omega) | (unfold cmdF;repeat (first | rfl | rw [if_pos (by omega)] | rw [if_neg (by omega)]))
end Go.Proofs.YtmmpoppgabadmaaGreat
