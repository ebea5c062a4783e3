import Derived.Test.YtmmpoppgabadmaaGreatG02
import Derived.Deep.QuietTactic
import Derived.BigQuiet
import Derived.Deep.RegionHeld3
import Derived.Deep.MidRow
import Derived.Deep.WholeRow
set_option linter.unusedVariables false
set_option linter.unusedSimpArgs false
set_option maxRecDepth 100000
set_option maxHeartbeats 16000000
namespace Go.Proofs.YtmmpoppgabadmaaGreat
open Go.RowKit
theorem X0 {a b:Bool}(h:a=b):Ending.returned (.bool a)=.returned (.bool b):=by rw [h]
def entB (e:Ent):Bool:=inB e.t 1 1073741824 && (cmdF e.cl e.sq e.op e.k.size e.v.size e.o.size == 0)
theorem entryFits_any (e:Ent)(hf:e.fits)(w:World) :
  Calls Tryz.prog 109 #[.agg #[.int .i64 e.t,.int .i64 e.cl,.int .i64 e.sq,.int .i64 e.op,.string e.k,.string e.v,.string e.o]] w fun r w'=>r=.returned (.bool (entB e))/\Below w.heap.size w w':=by
 obtain ⟨h1,h2,h3⟩:=hf;go_enter Tryz.func109,Tryz.ntmps109
 go_wp2_with (first
  |(go_at_call 70;refine (Ze _ _ _ _).mono ?_;rintro r w' ⟨rfl,rfl⟩)
  |(go_at_call 144;refine (Z31 e.cl e.sq e.op e.k e.v e.o h1 h2 h3 _).mono ?_;rintro r w1 ⟨rfl,hb⟩))
 ·go_ret
  exact ⟨X0 (by go_light;simp_all [entB]),((Below.refl _ _).alloc (Nat.le_refl _) _).trans (hb.mono (by simp))⟩
 ·go_ret
  exact ⟨X0 (by go_light;simp_all [entB]),(Below.refl _ _).alloc (Nat.le_refl _) _⟩
theorem Z39 (e:Ent)(hf:e.fits)(w:World) :
  Calls Tryz.prog 97 #[.agg #[.int .i64 e.t,.int .i64 e.cl,.int .i64 e.sq,.int .i64 e.op,.string e.k,.string e.v,.string e.o]] w fun r w'=>r=.returned (.bool (entB e))/\Below w.heap.size w w':=by
 obtain ⟨h1,h2,h3⟩:=hf;by_cases t1:1<=e.t
 ·by_cases t2:e.t<=1073741824
  ·have hin:inB e.t 1 1073741824=true:=(Zr _ _ _).2 ⟨t1,t2⟩
   go_enter Tryz.func97,Tryz.ntmps97
   go_wp2_with (go_at_call 125;refine (Ju e.cl e.sq e.op e.k e.v e.o h1 h2 h3 _).mono ?_;rintro r w1 ⟨rfl,hb⟩)
   go_ret;exact ⟨X0 (by rw [entB,hin];simp),((Below.refl _ _).alloc (Nat.le_refl _) _).trans (hb.mono (by simp))⟩
  ·have hin:inB e.t 1 1073741824=false:=(Z02 _ _ _).2 (by omega)
   have hd:decide (e.t<=1073741824)=false:=by simpa using t2
   go_enter Tryz.func97,Tryz.ntmps97
   go_wp2_with (go_at_call 125;refine (Ju e.cl e.sq e.op e.k e.v e.o h1 h2 h3 _).mono ?_;rintro r w1 ⟨rfl,hb⟩)
   go_ret;exact ⟨X0 (by rw [entB,hin];simp),(Below.refl _ _).alloc (Nat.le_refl _) _⟩
 ·have hin:inB e.t 1 1073741824=false:=(Z02 _ _ _).2 (by omega)
  have hd:decide (1<=e.t)=false:=by simpa using t1
  go_enter Tryz.func97,Tryz.ntmps97
  go_wp2_with (go_at_call 125;refine (Ju e.cl e.sq e.op e.k e.v e.o h1 h2 h3 _).mono ?_;rintro r w1 ⟨rfl,hb⟩)
  go_ret;exact ⟨X0 (by rw [entB,hin];simp),(Below.refl _ _).alloc (Nat.le_refl _) _⟩
def Xc (high:Int):Int->List Ent->Bool
 | _,[]=>true
 | low,e :: r=>entB e && inB e.t low high && Xc high e.t r
theorem fitL_drop (high low:Int)(l:List Ent)(k:Nat)(h:k<l.length):Xc high low (l.drop k)=(entB l[k] && inB l[k].t low high && Xc high l[k].t (l.drop (k+1))):=by
 rw [List.drop_eq_getElem_cons h];rfl
theorem Z14 (ev:Value)(lt tm:Int)(l:List Ent)(w:World)(hv:Es w ev l)(hll:l.length<=1048576) :
  Calls Tryz.prog 69 #[ev,.int .i64 lt,.int .i64 tm] w fun r w'=>r=.returned (.bool (Xc tm lt l))/\Below w.heap.size w w':=by
 obtain ⟨hl,hf,a,cap,rfl,hc⟩:=hv;go_enter Tryz.func69,Tryz.ntmps69;go_wp2
 go_loopw [1,11] (fun t i wr=>∃(k:Nat) (x:Int),k<=l.length/\i=.int .i64 k/\t=.int .i64 x/\Xc tm lt l=Xc tm x (l.drop k)/\Below w.heap.size w wr) (fun _ i _=>l.length-(intOf i).toNat)
 case atStart=>exact ⟨0,lt,Nat.zero_le _,rfl,rfl,by simp,Below.refl _ _⟩
 case round=>
  obtain ⟨k,x,hk,rfl,rfl,hfl,hB⟩:=hrel;have HF:Hid (Xc tm lt l=Xc tm x (l.drop k)):=hfl;have hz:=hB.size;clear hfl;by_cases hlt:k<l.length
  ·obtain ⟨b,off,rfl,hj⟩:=hc k hlt
   obtain ⟨c0,c1,c2,c3,c4,c5,c6⟩:=(hj k hlt).below hB;have hfk:=hf l[k] (List.getElem_mem hlt);have HD:Hid (Xc tm x (l.drop k)=(entB l[k] && inB l[k].t x tm && Xc tm l[k].t (l.drop (k+1)))):=fitL_drop tm x l k hlt;clear hc hj;generalize l[k]=e at *
   go_wp2_with (first
    |(go_at_call 109;refine (entryFits_any e hfk _).mono ?_;rintro r w1 ⟨rfl,hb⟩;obtain ⟨hc1,hf1⟩:=Z0b hb;have hz1:wr.heap.size<w1.heap.size:=(by have:=hb.size;simp at this;omega))
    |(go_at_call 70;refine (Ze _ _ _ _).mono ?_;rintro r w' ⟨rfl,rfl⟩))
   ·go_ret
    exact ⟨X0 (by rw [HF.out,HD.out];go_light;simp_all),hB.trans (((Below.refl _ _).alloc (by omega) _).trans (hb.mono (by simp;omega)))⟩
   ·go_roundw
    case rel=>exact ⟨k+1,e.t,by omega,by go_num,rfl,by rw [HF.out,HD.out];go_light;simp_all,hB.trans (((Below.refl _ _).alloc (by omega) _).trans (hb.mono (by simp;omega)))⟩
    case measure=>simp [intOf];omega
   ·go_ret
    exact ⟨X0 (by rw [HF.out,HD.out];go_light;simp_all),hB.trans (((Below.refl _ _).alloc (by omega) _).trans (hb.mono (by simp;omega)))⟩
  ·have hd:l.drop k = []:=List.drop_of_length_le (by omega)
   go_wp2;go_ret;exact ⟨X0 (by rw [HF.out,hd];rfl),hB⟩
theorem Z2q {e:Ent}{low high:Int}(X:Bool)(h:entB e=false∨e.t<low∨high<e.t):(entB e && inB e.t low high && X)=false:=by
 rcases h with h | h
 ·rw [h];rfl
 ·rw [(Z02 _ _ _).2 h];simp
theorem fit_yes {e:Ent}{low high:Int}(X:Bool)(h:entB e=true)(h1:low<=e.t)(h2:e.t<=high):(entB e && inB e.t low high && X)=X:=by
 rw [h,(Zr _ _ _).2 ⟨h1,h2⟩];rfl
theorem prev_step (low:Int)(l:List Ent)(k:Nat)(h:k<l.length):(if k+1=0 then low else (l[k+1-1]?.map Ent.t).getD 0)=l[k].t:=by simp [h]
theorem Yf (ev:Value)(low high:Int)(l:List Ent)(w:World)(hv:Es w ev l)(hll:l.length<=1048576) :
  Calls Tryz.prog 57 #[ev,.int .i64 low,.int .i64 high] w fun r w'=>r=.returned (.bool (Xc high low l))/\Below w.heap.size w w':=by
 obtain ⟨hl,hf,a,cap,rfl,hc⟩:=hv;go_enter Tryz.func57,Tryz.ntmps57;go_wp2
 go_loopw [7] (fun i wr=>∃ k:Nat,k<=l.length/\i=.int .i64 k/\Xc high low l=Xc high (if k=0 then low else (l[k-1]?.map Ent.t).getD 0) (l.drop k)/\Below w.heap.size w wr) (fun i _=>l.length-(intOf i).toNat)
 case atStart=>exact ⟨0,Nat.zero_le _,rfl,by simp,Below.refl _ _⟩
 case round=>
  obtain ⟨k,hk,rfl,hfl,hB⟩:=hrel;have HF:Hid (Xc high low l=Xc high (if k=0 then low else (l[k-1]?.map Ent.t).getD 0) (l.drop k)):=hfl;have hz:=hB.size;clear hfl;by_cases hlt:k<l.length
  ·obtain ⟨b,off,rfl,hj⟩:=hc k hlt
   have hfk:=hf l[k] (List.getElem_mem hlt);have HD:∀ x,Hid (Xc high x (l.drop k)=(entB l[k] && inB l[k].t x high && Xc high l[k].t (l.drop (k+1)))):=fun x=>fitL_drop high x l k hlt
   have HP:Hid ((if k+1=0 then low else (l[k+1-1]?.map Ent.t).getD 0)=l[k].t):=prev_step low l k hlt;by_cases h0:k=0
   ·subst h0
    obtain ⟨c0,c1,c2,c3,c4,c5,c6⟩:=(hj 0 hlt).below hB;have hlow:(if (0:Nat)=0 then low else (l[0-1]?.map Ent.t).getD 0)=low:=rfl;rw [hlow] at HF;clear hc hj hlow;simp only [Nat.zero_mul,Nat.add_zero] at c0 c1 c2 c3 c4 c5 c6;generalize l[0]=e at *
    go_wp2_with (go_at_call 97;refine (Z39 e hfk _).mono ?_;rintro r w1 ⟨rfl,hb⟩;obtain ⟨hc1,hf1⟩:=Z0b hb;have hbl:=Xb c0)
    ·go_ret
     exact ⟨X0 (by rw [HF.out,(HD _).out,Z2q];go_light;cases hE:entB e <;> simp_all <;> omega),hB.trans (hb.mono hz)⟩
    ·go_ret
     exact ⟨X0 (by rw [HF.out,(HD _).out,Z2q];go_light;cases hE:entB e <;> simp_all <;> omega),hB.trans (hb.mono hz)⟩
    ·go_quiet (fail)
     go_wp2
     go_roundw
     case rel=>exact ⟨0+1,by omega,by go_num,by rw [HF.out,(HD _).out,HP.out,fit_yes] <;> (go_light;cases hE:entB e <;> simp_all <;> omega),hB.trans ((hb.mono hz).trans ⟨rfl,rfl,rfl,Nat.le_refl _,fun _ _=>rfl⟩)⟩
     case measure=>simp [intOf];omega
    ·go_ret
     exact ⟨X0 (by rw [HF.out,(HD _).out,Z2q];go_light;cases hE:entB e <;> simp_all <;> omega),hB.trans (hb.mono hz)⟩
   ·obtain ⟨j,rfl⟩:∃ j,k=j+1:=⟨k-1,by omega⟩
    have hp:j<l.length:=by omega
    have hprev:(if j+1=0 then low else (l[j+1-1]?.map Ent.t).getD 0)=l[j].t:=prev_step low l j hp;rw [hprev] at HF;obtain ⟨c0,c1,c2,c3,c4,c5,c6⟩:=(hj (j+1) hlt).below hB;obtain ⟨p0,_⟩:=(hj j hp).below hB;have hbl:=Xb c0;clear hc hj hprev h0;generalize l[j]=pe at *;generalize l[j+1]=e at *
    go_wp2_with (go_at_call 97;refine (Z39 e hfk _).mono ?_;rintro r w1 ⟨rfl,hb⟩;obtain ⟨hc1,hf1⟩:=Z0b hb)
    ·go_ret
     exact ⟨X0 (by rw [HF.out,(HD _).out,Z2q];go_light;cases hE:entB e <;> simp_all <;> omega),hB.trans (hb.mono hz)⟩
    ·go_quiet (fail)
     go_wp2
     ·go_ret
      exact ⟨X0 (by rw [HF.out,(HD _).out,Z2q];go_light;cases hE:entB e <;> simp_all <;> omega),hB.trans ((hb.mono hz).trans ⟨rfl,rfl,rfl,Nat.le_refl _,fun _ _=>rfl⟩)⟩
     ·go_roundw
      case rel=>exact ⟨j+1+1,by omega,by go_num,by rw [HF.out,(HD _).out,HP.out,fit_yes] <;> (go_light;cases hE:entB e <;> simp_all <;> omega),hB.trans ((hb.mono hz).trans ⟨rfl,rfl,rfl,Nat.le_refl _,fun _ _=>rfl⟩)⟩
      case measure=>simp [intOf];omega
    ·go_ret
     exact ⟨X0 (by rw [HF.out,(HD _).out,Z2q];go_light;cases hE:entB e <;> simp_all <;> omega),hB.trans (hb.mono hz)⟩
  ·have hd:l.drop k = []:=List.drop_of_length_le (by omega)
   go_wp2;go_ret;exact ⟨X0 (by rw [HF.out,hd];rfl),hB⟩
def Z24 (t v:Int):Bool:=inB t 0 1073741824 && (inB v 0 7 && (decide (0<t) || v == 0))
def stB (t v:Int)(l:List Ent):Bool:=Z24 t v && (decide (l.length<=4096) && Xc t 1 l)
theorem Z0x (t v:Int)(u:Value)(l:List Ent)(w:World)(hv:Es w u l)(hll:l.length<=1048576) :
  Calls Tryz.prog 101 #[.agg #[.int .i64 t,.int .i64 v,u]] w fun e w'=>e=.returned (.bool (stB t v l))/\Below w.heap.size w w':=by
 have HV:Hid (Es w u l):=hv;obtain ⟨hl,hf,a,cap,rfl,hc⟩:=hv;clear hc hf;have hb0:Hid (Below w.heap.size w (w.alloc (.cells #[.int .i64 t,.int .i64 v,.slice a l.length cap] 104))):=(Below.refl _ _).alloc (Nat.le_refl _) _;have g1:True:=trivial;cases h1:inB t 0 1073741824
 ·have e:stB t v l=false:=by simp [stB,Z24,h1]
  rw [e];go_enter Tryz.func101,Tryz.ntmps101
  go_wp2_with (go_at_call 56;refine (Za t 0 1073741824 _).mono ?_;rintro e w1 ⟨rfl,rfl⟩;rw [h1])
  go_ret;exact ⟨rfl,hb0.out⟩
 ·cases h2:inB v 0 7
  ·have e:stB t v l=false:=by simp [stB,Z24,h1,h2]
   rw [e];go_enter Tryz.func101,Tryz.ntmps101
   go_wp2_with (first
    |(go_at_call 56;clear g1;refine (Za t 0 1073741824 _).mono ?_;rintro e w1 ⟨rfl,rfl⟩;rw [h1])
    |(go_at_call 56;refine (Za v 0 7 _).mono ?_;rintro e w1 ⟨rfl,rfl⟩;rw [h2]))
   go_ret;exact ⟨rfl,hb0.out⟩
  ·by_cases h3:t=0/\v≠0
   ·obtain ⟨rfl,h3⟩:=h3
    have e:stB 0 v l=false:=by simp [stB,Z24,h3]
    rw [e];go_enter Tryz.func101,Tryz.ntmps101
    go_wp2_with (first
     |(go_at_call 56;clear g1;refine (Za 0 0 1073741824 _).mono ?_;rintro e w1 ⟨rfl,rfl⟩;rw [h1])
     |(go_at_call 56;refine (Za v 0 7 _).mono ?_;rintro e w1 ⟨rfl,rfl⟩;rw [h2]))
    go_ret;exact ⟨rfl,hb0.out⟩
   ·have hA:Z24 t v=true:=by
     have:=(Zr _ _ _).1 h1;simp only [Z24,h1,h2,Bool.true_and,Bool.or_eq_true,decide_eq_true_eq,beq_iff_eq];omega
    have e:stB t v l=(decide (l.length<=4096) && Xc t 1 l):=by simp [stB,hA]
    rw [e];by_cases hn:l.length<=4096
    ·rw [decide_eq_true hn,Bool.true_and]
     have h3':t=0->v=0:=fun h=>Decidable.byContradiction fun h'=>h3 ⟨h,h'⟩
     clear h3;by_cases h0:t=0
     ·obtain rfl:=h0
      obtain rfl:=h3' rfl;clear h3';go_enter Tryz.func101,Tryz.ntmps101
      go_wp2_with (first
       |(go_at_call 56;clear g1;refine (Za 0 0 1073741824 _).mono ?_;rintro e w1 ⟨rfl,rfl⟩;rw [h1])
       |(go_at_call 56;refine (Za 0 0 7 _).mono ?_;rintro e w1 ⟨rfl,rfl⟩;rw [h2])
       |(go_at_call 57;refine (Yf _ 1 0 l _ (HV.out.below hb0.out) hll).mono ?_;rintro e w2 ⟨rfl,hb⟩))
      go_ret;exact ⟨rfl,hb0.out.trans (hb.mono (by simp))⟩
     ·clear h3'
      go_enter Tryz.func101,Tryz.ntmps101
      go_wp2_with (first
       |(go_at_call 56;clear g1;refine (Za t 0 1073741824 _).mono ?_;rintro e w1 ⟨rfl,rfl⟩;rw [h1])
       |(go_at_call 56;refine (Za v 0 7 _).mono ?_;rintro e w1 ⟨rfl,rfl⟩;rw [h2])
       |(go_at_call 57;refine (Yf _ 1 t l _ (HV.out.below hb0.out) hll).mono ?_;rintro e w2 ⟨rfl,hb⟩))
      go_ret;exact ⟨rfl,hb0.out.trans (hb.mono (by simp))⟩
    ·rw [decide_eq_false hn,Bool.false_and]
     have h3':t=0->v=0:=fun h=>Decidable.byContradiction fun h'=>h3 ⟨h,h'⟩
     clear h3;by_cases h0:t=0
     ·obtain rfl:=h0
      obtain rfl:=h3' rfl;clear h3';go_enter Tryz.func101,Tryz.ntmps101
      go_wp2_with (first
       |(go_at_call 56;clear g1;refine (Za 0 0 1073741824 _).mono ?_;rintro e w1 ⟨rfl,rfl⟩;rw [h1])
       |(go_at_call 56;refine (Za 0 0 7 _).mono ?_;rintro e w1 ⟨rfl,rfl⟩;rw [h2]))
      go_ret;exact ⟨rfl,hb0.out⟩
     ·clear h3'
      go_enter Tryz.func101,Tryz.ntmps101
      go_wp2_with (first
       |(go_at_call 56;clear g1;refine (Za t 0 1073741824 _).mono ?_;rintro e w1 ⟨rfl,rfl⟩;rw [h1])
       |(go_at_call 56;refine (Za v 0 7 _).mono ?_;rintro e w1 ⟨rfl,rfl⟩;rw [h2]))
      go_ret;exact ⟨rfl,hb0.out⟩
theorem tmod_lo (x n:Int)(hn:0<n) : -n<x.tmod n:=Int.lt_tmod_of_pos x hn
theorem tmod_hi (x n:Int)(hn:0<n):x.tmod n<n:=Int.tmod_lt_of_pos x hn
theorem tmod_neg (x n:Int)(hn:0<n)(h:x.tmod n<0):x.tmod n+n=x%n:=by
 have e:=Int.tmod_add_mul_tdiv x n;have b1:=tmod_lo x n hn;have hx:x=(x.tmod n+n)+n*(x.tdiv n-1):=by rw [Int.mul_sub];omega
 have:x%n=((x.tmod n+n)+n*(x.tdiv n-1))%n:=by rw [<-hx]
 rw [this,Int.add_mul_emod_self_left,Int.emod_eq_of_lt] <;> omega
theorem tmod_pos (x n:Int)(hn:0<n)(h:¬ x.tmod n<0):x.tmod n=x%n:=by
 have e:=Int.tmod_add_mul_tdiv x n;have b2:=tmod_hi x n hn;have:x%n=(x.tmod n+n*x.tdiv n)%n:=by rw [e]
 rw [this,Int.add_mul_emod_self_left,Int.emod_eq_of_lt] <;> omega
def modI (x n:Int):Int:=x%n
theorem modI_ge (x n:Int)(hn:0<n):0<=modI x n:=Int.emod_nonneg _ (by omega)
theorem modI_lt (x n:Int)(hn:0<n):modI x n<n:=Int.emod_lt_of_pos _ hn
theorem mod_any (x n:Int)(hn:0<n)(hN:n<2^62)(hx : -(2^63)<=x)(hX:x<2^63)(w:World) :
  Calls Tryz.prog 195 #[.int .i64 x,.int .i64 n] w fun e w'=>e=.returned (.int .i64 (modI x n))/\w'=w:=by
 have b1:=tmod_lo x n hn;have b2:=tmod_hi x n hn;by_cases h:x.tmod n<0
 ·have hb:=tmod_neg x n hn h
  unfold modI;rw [<-hb];go_enter Tryz.func195,Tryz.ntmps195;go_wp2;go_ret;exact ⟨by simp;omega,rfl⟩
 ·have hb:=tmod_pos x n hn h
  unfold modI;rw [<-hb];go_enter Tryz.func195,Tryz.ntmps195;go_wp2;go_ret;exact ⟨by simp,rfl⟩
theorem l1mod_any (x n:Int)(hn:0<n)(hN:n<2^62)(hx : -(2^63)<=x)(hX:x<2^63)(w:World) :
  Calls Tryz.prog 141 #[.int .i64 x,.int .i64 n] w fun e w'=>e=.returned (.int .i64 (modI x n))/\w'=w:=by
 have b1:=tmod_lo x n hn;have b2:=tmod_hi x n hn;by_cases h:x.tmod n<0
 ·have hb:=tmod_neg x n hn h
  unfold modI;rw [<-hb];go_enter Tryz.func141,Tryz.ntmps141;go_wp2;go_ret;exact ⟨by simp;omega,rfl⟩
 ·have hb:=tmod_pos x n hn h
  unfold modI;rw [<-hb];go_enter Tryz.func141,Tryz.ntmps141;go_wp2;go_ret;exact ⟨by simp,rfl⟩
def J3 (el dr:Int):Int:=if inB el 1 1000=true then el+modI dr el else 0
theorem toutC_in {el:Int}(dr:Int)(h:inB el 1 1000=true):J3 el dr=el+modI dr el:=by unfold J3;rw [if_pos h]
theorem toutC_out {el:Int}(dr:Int)(h:inB el 1 1000=false):J3 el dr=0:=by unfold J3;rw [h];rfl
theorem timeoutOf_any (el dr:Int)(hx : -(2^63)<=dr)(hX:dr<2^63)(w:World) :
  Calls Tryz.prog 179 #[.int .i64 el,.int .i64 dr] w fun e w'=>e=.returned (.int .i64 (J3 el dr))/\w'=w:=by
 cases hi:inB el 1 1000
 ·rw [toutC_out dr hi]
  go_enter Tryz.func179,Tryz.ntmps179
  go_wp2_with (go_at_call 70;refine (Ze _ _ _ _).mono ?_;rintro e w1 ⟨rfl,rfl⟩)
  go_ret;exact ⟨rfl,rfl⟩
 ·rw [toutC_in dr hi]
  have h2:=(Zr _ _ _).mp hi;have m1:=modI_ge dr el (by omega);have m2:=modI_lt dr el (by omega);go_enter Tryz.func179,Tryz.ntmps179
  go_wp2_with (first
   |(go_at_call 70;refine (Ze _ _ _ _).mono ?_;rintro e w1 ⟨rfl,rfl⟩)
   |(go_at_call 195;refine (mod_any dr el (by omega) (by omega) hx hX _).mono ?_;rintro e w1 ⟨rfl,rfl⟩))
  go_ret;exact ⟨rfl,rfl⟩
def newB (id sz el bt t v:Int)(l:List Ent):Bool:=Y3 id sz el bt && (stB t v l && decide (v<=sz))
theorem Z0y:(Tryz.prog.info? 36).map (·.size)=some 18:=by kernel_rfl
def NewAt (w w':World)(x:Ending)(id sz el bt t v dr:Int)(l:List Ent):Prop:=
 if newB id sz el bt t v l then ∃ b c,x=.returned (.agg #[.int .i64 id,.int .i64 sz,.int .i64 el,.int .i64 bt,.int .i64 t,.int .i64 v,.int .i64 0,.int .i64 0,.int .i64 0,.int .i64 0,.int .i64 (J3 el dr),.int .i64 0,.slice b l.length c,.slice none 0 0,.slice none 0 0,.slice none 0 0,.slice none 0 0,.slice none 0 0])/\Zv w' w.heap.size (.slice b l.length c) l/\Below w.heap.size w w'
 else x=.returned (.agg #[.int .i64 0,.int .i64 0,.int .i64 0,.int .i64 0,.int .i64 0,.int .i64 0,.int .i64 0,.int .i64 0,.int .i64 0,.int .i64 0,.int .i64 0,.int .i64 0,.slice none 0 0,.slice none 0 0,.slice none 0 0,.slice none 0 0,.slice none 0 0,.slice none 0 0])/\Below w.heap.size w w'
theorem Z3x (el dr:Int)(hx : -(2^63)<=dr)(hX:dr<2^63)(w:World) :
  Calls Tryz.prog 103 #[.int .i64 el,.int .i64 dr] w fun e w'=>e=.returned (.int .i64 (J3 el dr))/\w'=w:=by
 cases hi:inB el 1 1000
 ·rw [toutC_out dr hi]
  go_enter Tryz.func103,Tryz.ntmps103
  go_wp2_with (go_at_call 56;refine (Za _ _ _ _).mono ?_;rintro e w1 ⟨rfl,rfl⟩)
  go_ret;exact ⟨rfl,rfl⟩
 ·rw [toutC_in dr hi]
  have h2:=(Zr _ _ _).mp hi;have m1:=modI_ge dr el (by omega);have m2:=modI_lt dr el (by omega);go_enter Tryz.func103,Tryz.ntmps103
  go_wp2_with (first
   |(go_at_call 56;refine (Za _ _ _ _).mono ?_;rintro e w1 ⟨rfl,rfl⟩)
   |(go_at_call 141;refine (l1mod_any dr el (by omega) (by omega) hx hX _).mono ?_;rintro e w1 ⟨rfl,rfl⟩))
  go_ret;exact ⟨rfl,rfl⟩
theorem entAt_new' (w:World)(e:Ent):Xv (w.alloc (.cells #[.int .i64 e.t,.int .i64 e.cl,.int .i64 e.sq,.int .i64 e.op,.string e.k,.string e.v,.string e.o] 118)) w.heap.size 0 e:=by
 refine ⟨?_,?_,?_,?_,?_,?_,?_⟩ <;> simp
theorem l4entries_any (v:Value)(l:List Ent)(w:World)(hv:Es w v l)(hll:l.length<=1000000) :
  Calls Tryz.prog 102 #[v] w fun e w'=>∃ v',e=.returned v'/\Zv w' w.heap.size v' l/\Below w.heap.size w w':=by
 obtain ⟨hm,hf,a,cap,rfl,hc⟩:=hv;unfold maxLen at hm;go_enter Tryz.func102,Tryz.ntmps102;go_wp2
 go_loopw [3,4] (fun s i wr=>∃ k:Nat,k<=l.length/\i=.int .i64 k/\Zv wr w.heap.size s (l.take k)/\Below w.heap.size w wr) (fun _ i _=>l.length-(intOf i).toNat)
 case atStart=>exact ⟨0,Nat.zero_le _,rfl,Zv.made w w.heap.size (Nat.le_refl _),(Below.refl _ _).alloc (Nat.le_refl _) _⟩
 case round=>
  obtain ⟨k,hk,rfl,ho,hB⟩:=hrel;have hz:=hB.size;by_cases hlt:k<l.length
  ·obtain ⟨b,off,rfl,hj⟩:=hc k hlt
   have hfk:=hf l[k] (List.getElem_mem hlt);obtain ⟨c0,c1,c2,c3,c4,c5,c6⟩:=(hj k hlt).below hB;obtain ⟨a3,cap3,rfl⟩:=ho.shape;have hlen:(l.take k).length=k:=by rw [List.length_take];omega
   have HT:Hid (l.take (k+1)=l.take k ++ [l[k]]):=List.take_succ_eq_append_getElem hlt;have HO:Hid (Zv wr w.heap.size (.slice a3 (l.take k).length cap3) (l.take k)):=ho;have HBB:Hid _:=hB;clear hc hj hf ho hB;generalize l[k]=e at *
   go_wp2_with (at_builtin;refine Xu rfl (.tmp 12) (.tmp 17) rfl e hfk (HO.out.below ((Below.refl _ _).alloc (Nat.le_refl _) _)) rfl wr.heap.size 1 (entAt_new' wr e) rfl (by rw [hlen];omega) (by simp;omega) ?_;intro v' w' ho' hg;have hb':=growE hg (HO.out.below ((Below.refl _ _).alloc (Nat.le_refl _) _)) (by simp;omega))
   go_roundw
   case rel=>exact ⟨k+1,by omega,by go_num,by rw [HT.out];exact ho',(HBB.out.alloc hz _).trans hb'⟩
   case measure=>simp [intOf];omega
  ·go_wp2
   go_ret;rw [List.take_of_length_le (by omega)] at ho;exact ⟨_,rfl,ho,hB⟩
theorem sNewNode_any (id sz el bt t v dr:Int)(a:Option Addr)(cap:Nat)(l:List Ent)(w:World)(hv:Es w (.slice a l.length cap) l)(hll:l.length<=1048576)(hd1 : -(2^63)<=dr)(hd2:dr<2^63) :
  Calls Tryz.prog 63 #[.int .i64 id,.int .i64 sz,.int .i64 el,.int .i64 bt,.agg #[.int .i64 t,.int .i64 v,.slice a l.length cap],.int .i64 dr] w fun x w'=>NewAt w w' x id sz el bt t v dr l:=by
 have HV:Hid (Es w (.slice a l.length cap) l):=hv;clear hv;unfold NewAt;cases hp:Y3 id sz el bt
 ·rw [show newB id sz el bt t v l=false by simp [newB,hp]]
  simp only [Bool.false_eq_true,if_false];go_enter Tryz.func63,Tryz.ntmps63
  go_wp2_with (first
   |(go_at_call 58;refine sw (Zu _ _ _ _ _) ?_;rw [hp])
   |(refine Y2 36 (.tmp 12) _ rfl ?_;refine Zz rfl 36 (.tmp 12) _ rfl (w.heap.size+1) rfl (by simp) rfl Z0y rfl rfl (by simp [Value.oneCell']) ?_))
  exact bodyPost_ret (v:=.agg #[.int .i64 0,.int .i64 0,.int .i64 0,.int .i64 0,.int .i64 0,.int .i64 0,.int .i64 0,.int .i64 0,.int .i64 0,.int .i64 0,.int .i64 0,.int .i64 0,.slice none 0 0,.slice none 0 0,.slice none 0 0,.slice none 0 0,.slice none 0 0,.slice none 0 0]) (Y9 Tryz.results63 rfl (Blk.new' _ _ _ (by simp)) Tryz.underlying36 rfl Z0y rfl) rfl ⟨rfl,((Below.refl _ _).alloc (Nat.le_refl _) _).alloc (by simp) _⟩
 cases hs:stB t v l
 ·rw [show newB id sz el bt t v l=false by simp [newB,hs]]
  simp only [Bool.false_eq_true,if_false];go_enter Tryz.func63,Tryz.ntmps63
  go_wp2_with (first
   |(go_at_call 58;refine sw (Zu _ _ _ _ _) ?_;rw [hp])
   |(go_at_call 101;refine (Z0x t v _ l _ (HV.out.below (((Below.refl _ _).alloc (Nat.le_refl _) _).alloc (by simp) _)) hll).mono ?_;rintro e w1 ⟨rfl,hb1⟩;rw [hs];have hz:w.heap.size+1<w1.heap.size:=(by have:=hb1.size;simp at this;omega);have BS:=((Blk.new w _ _).alloc _).below hb1 (by simp;omega);have BR:=(Blk.new' (w.alloc _) _ _ (k:=w.heap.size+1) (by simp)).below hb1 (by simp);have HB:Hid (Below w.heap.size w w1):=(((Below.refl w.heap.size w).alloc (Nat.le_refl _) _).alloc (by simp) _).trans (hb1.mono (by simp;omega));have cS:=BS.cell;clear hb1)
   |(have hBR:=BR;refine Y2 36 (.tmp 12) _ rfl ?_;clear hBR;refine Y1 rfl 36 (.tmp 12) _ rfl (w.heap.size+1) rfl rfl BR Z0y rfl rfl (by simp [Value.oneCell']) ?_))
  exact bodyPost_ret (v:=.agg #[.int .i64 0,.int .i64 0,.int .i64 0,.int .i64 0,.int .i64 0,.int .i64 0,.int .i64 0,.int .i64 0,.int .i64 0,.int .i64 0,.int .i64 0,.int .i64 0,.slice none 0 0,.slice none 0 0,.slice none 0 0,.slice none 0 0,.slice none 0 0,.slice none 0 0]) (Y9 Tryz.results63 rfl (BR.row _) Tryz.underlying36 rfl Z0y rfl) rfl ⟨rfl,J0 HB.out (by omega) _⟩
 by_cases hvs:v<=sz
 case neg=>
  rw [show newB id sz el bt t v l=false by simp [newB,hvs]];simp only [Bool.false_eq_true,if_false];have hgt:sz<v:=by omega
  go_enter Tryz.func63,Tryz.ntmps63
  go_wp2_with (first
   |(go_at_call 58;refine sw (Zu _ _ _ _ _) ?_;rw [hp])
   |(go_at_call 101;refine (Z0x t v _ l _ (HV.out.below (((Below.refl _ _).alloc (Nat.le_refl _) _).alloc (by simp) _)) hll).mono ?_;rintro e w1 ⟨rfl,hb1⟩;rw [hs];have hz:w.heap.size+1<w1.heap.size:=(by have:=hb1.size;simp at this;omega);have BS:=((Blk.new w _ _).alloc _).below hb1 (by simp;omega);have BR:=(Blk.new' (w.alloc _) _ _ (k:=w.heap.size+1) (by simp)).below hb1 (by simp);have HB:Hid (Below w.heap.size w w1):=(((Below.refl w.heap.size w).alloc (Nat.le_refl _) _).alloc (by simp) _).trans (hb1.mono (by simp;omega));have cS:=BS.cell;clear hb1)
   |(have hBR:=BR;refine Y2 36 (.tmp 12) _ rfl ?_;clear hBR;refine Y1 rfl 36 (.tmp 12) _ rfl (w.heap.size+1) rfl rfl BR Z0y rfl rfl (by simp [Value.oneCell']) ?_))
  exact bodyPost_ret (v:=.agg #[.int .i64 0,.int .i64 0,.int .i64 0,.int .i64 0,.int .i64 0,.int .i64 0,.int .i64 0,.int .i64 0,.int .i64 0,.int .i64 0,.int .i64 0,.int .i64 0,.slice none 0 0,.slice none 0 0,.slice none 0 0,.slice none 0 0,.slice none 0 0,.slice none 0 0]) (Y9 Tryz.results63 rfl (BR.row _) Tryz.underlying36 rfl Z0y rfl) rfl ⟨rfl,J0 HB.out (by omega) _⟩
 rw [show newB id sz el bt t v l=true by simp [newB,hp,hs,hvs]];simp only [if_true];have hl4:l.length<=4096:=by simp only [stB,Bool.and_eq_true,decide_eq_true_eq] at hs;exact hs.2.1
 go_enter Tryz.func63,Tryz.ntmps63
 go_wp2_with (first
  |(go_at_call 58;refine sw (Zu _ _ _ _ _) ?_;rw [hp])
  |(go_at_call 101;refine (Z0x t v _ l _ (HV.out.below (((Below.refl _ _).alloc (Nat.le_refl _) _).alloc (by simp) _)) hll).mono ?_;rintro e w1 ⟨rfl,hb1⟩;rw [hs];have hz:w.heap.size+1<w1.heap.size:=(by have:=hb1.size;simp at this;omega);have BS:=((Blk.new w _ _).alloc _).below hb1 (by simp;omega);have BR:=(Blk.new' (w.alloc _) _ _ (k:=w.heap.size+1) (by simp)).below hb1 (by simp);have HB:Hid (Below w.heap.size w w1):=(((Below.refl w.heap.size w).alloc (Nat.le_refl _) _).alloc (by simp) _).trans (hb1.mono (by simp;omega));have cS:=BS.cell;clear hb1))
 refine wp_named ?_;intro a0 ha0;have hsz0:a0.tmps.size=46:=by rw [ha0];rfl
 have e0:a0.eval (.tmp 0)=.int .i64 id:=by rw [ha0];rfl
 have e1:a0.eval (.tmp 1)=.int .i64 sz:=by rw [ha0];rfl
 have e2:a0.eval (.tmp 2)=.int .i64 el:=by rw [ha0];rfl
 have e3:a0.eval (.tmp 3)=.int .i64 bt:=by rw [ha0];rfl
 have e5:a0.eval (.tmp 5)=.int .i64 dr:=by rw [ha0];rfl
 have e10:a0.eval (.tmp 10)=.pointer (some ⟨w.heap.size,0,none⟩):=by rw [ha0];rfl
 have e12:a0.eval (.tmp 12)=.pointer (some ⟨w.heap.size+1,0,none⟩):=by rw [ha0];rfl
 have HA0:Hid (a0=_):=ha0;clear ha0;refine Y7 (by kernel_rfl) (fun L aF w'=>∃ x:Nat->Value,aF=frame a0 [31,32,33,34,35,36,37,38,39,40,41,42,43,44,45] x/\Below w.heap.size w w'/\(Blk w' w.heap.size #[.int .i64 t,.int .i64 v,.slice a l.length cap] 104)/\(∃ C,Blk w' (w.heap.size+1) C 36/\C.size=18/\(L.getD 15 false=true->∃ b c,C=#[.int .i64 id,.int .i64 sz,.int .i64 el,.int .i64 bt,.int .i64 t,.int .i64 v,.int .i64 0,.int .i64 0,.int .i64 0,.int .i64 0,.int .i64 (J3 el dr),.int .i64 0,.slice b l.length c,.slice none 0 0,.slice none 0 0,.slice none 0 0,.slice none 0 0,.slice none 0 0]/\Zv w' w1.heap.size (.slice b l.length c) l))/\(w1.heap.size<=w'.heap.size)/\(L.getD 0 false=true->x 31=.int .i64 id)/\(L.getD 1 false=true->x 32=.int .i64 sz)/\(L.getD 2 false=true->x 33=.int .i64 el)/\(L.getD 3 false=true->x 34=.int .i64 bt)/\(L.getD 4 false=true->x 35=.pointer (some ⟨w.heap.size,0,none⟩))/\(L.getD 5 false=true->x 36=.int .i64 t)/\(L.getD 6 false=true->x 37=.pointer (some ⟨w.heap.size,1,none⟩))/\(L.getD 7 false=true->x 38=.int .i64 v)/\(L.getD 8 false=true->x 39=.pointer (some ⟨w.heap.size,2,none⟩))/\(L.getD 9 false=true->x 40=.slice a l.length cap)/\(L.getD 10 false=true->∃ b c,x 41=.slice b l.length c/\Zv w' w1.heap.size (.slice b l.length c) l)/\(L.getD 11 false=true->x 42=.int .i64 el)/\(L.getD 12 false=true->x 43=.int .i64 dr)/\(L.getD 13 false=true->x 44=.int .i64 (J3 el dr))/\(L.getD 14 false=true->∃ b c,x 45=.agg #[.int .i64 id,.int .i64 sz,.int .i64 el,.int .i64 bt,.int .i64 t,.int .i64 v,.int .i64 0,.int .i64 0,.int .i64 0,.int .i64 0,.int .i64 (J3 el dr),.int .i64 0,.slice b l.length c,.slice none 0 0,.slice none 0 0,.slice none 0 0,.slice none 0 0,.slice none 0 0]/\Zv w' w1.heap.size (.slice b l.length c) l)/\(L.getD 15 false=true->True)) ?_ ?_ ?_
 ·exact ⟨_,Yk a0 [31,32,33,34,35,36,37,38,39,40,41,42,43,44,45],HB.out.drew,BS.drew,⟨_,BR.drew,rfl,fun h=>(Zl h).elim⟩,Nat.le_refl _,fun h=>(Zl h).elim,fun h=>(Zl h).elim,fun h=>(Zl h).elim,fun h=>(Zl h).elim,fun h=>(Zl h).elim,fun h=>(Zl h).elim,fun h=>(Zl h).elim,fun h=>(Zl h).elim,fun h=>(Zl h).elim,fun h=>(Zl h).elim,fun h=>(Zl h).elim,fun h=>(Zl h).elim,fun h=>(Zl h).elim,fun h=>(Zl h).elim,fun h=>(Zl h).elim,fun h=>(Zl h).elim⟩
 ·rintro L a w' i hsL hi ⟨x,rfl,hB,X1,X2,X3,h0,h1,h2,h3,h4,h5,h6,h7,h8,h9,h10,h11,h12,h13,h14,h15⟩
  have hiL:i<16:=(Zx hsL hi).1;have hL:L.size=16:=hsL;have hw':w.heap.size<=w'.heap.size:=hB.size;rcases (show i=0∨i=1∨i=2∨i=3∨i=4∨i=5∨i=6∨i=7∨i=8∨i=9∨i=10∨i=11∨i=12∨i=13∨i=14∨i=15 by omega) with rfl | rfl | rfl | rfl | rfl | rfl | rfl | rfl | rfl | rfl | rfl | rfl | rfl | rfl | rfl | rfl
  ·skip
   refine Z8 rfl rfl (Y0 (.tmp 0) (Or.inl rfl) ?_);rw [Zc _ _ _ 0 rfl,e0];exact ⟨_,Z9 _ _ _ 31 _ rfl,hB,X1,(by obtain ⟨C,p1,p2,p3⟩:=X2;exact ⟨C,p1,p2,fun h9=>p3 (Z0 h9 (by omega) (by decide))⟩),X3,fun h=>Zb _ _ _,fun h=>by rw [Z6 _ _ _ _ (by decide)];exact (h1 (Z0 h (by omega) (by decide))),fun h=>by rw [Z6 _ _ _ _ (by decide)];exact (h2 (Z0 h (by omega) (by decide))),fun h=>by rw [Z6 _ _ _ _ (by decide)];exact (h3 (Z0 h (by omega) (by decide))),fun h=>by rw [Z6 _ _ _ _ (by decide)];exact (h4 (Z0 h (by omega) (by decide))),fun h=>by rw [Z6 _ _ _ _ (by decide)];exact (h5 (Z0 h (by omega) (by decide))),fun h=>by rw [Z6 _ _ _ _ (by decide)];exact (h6 (Z0 h (by omega) (by decide))),fun h=>by rw [Z6 _ _ _ _ (by decide)];exact (h7 (Z0 h (by omega) (by decide))),fun h=>by rw [Z6 _ _ _ _ (by decide)];exact (h8 (Z0 h (by omega) (by decide))),fun h=>by rw [Z6 _ _ _ _ (by decide)];exact (h9 (Z0 h (by omega) (by decide))),fun h=>by rw [Z6 _ _ _ _ (by decide)];exact (by obtain ⟨b2,c2,ey,ho⟩:=(h10 (Z0 h (by omega) (by decide)));exact ⟨b2,c2,ey,ho.below (Below.refl _ _)⟩),fun h=>by rw [Z6 _ _ _ _ (by decide)];exact (h11 (Z0 h (by omega) (by decide))),fun h=>by rw [Z6 _ _ _ _ (by decide)];exact (h12 (Z0 h (by omega) (by decide))),fun h=>by rw [Z6 _ _ _ _ (by decide)];exact (h13 (Z0 h (by omega) (by decide))),fun h=>by rw [Z6 _ _ _ _ (by decide)];exact (by obtain ⟨b2,c2,ey,ho⟩:=(h14 (Z0 h (by omega) (by decide)));exact ⟨b2,c2,ey,ho.below (Below.refl _ _)⟩),fun h=>trivial⟩
  ·skip
   refine Z8 rfl rfl (Y0 (.tmp 1) (Or.inl rfl) ?_);rw [Zc _ _ _ 1 rfl,e1];exact ⟨_,Z9 _ _ _ 32 _ rfl,hB,X1,(by obtain ⟨C,p1,p2,p3⟩:=X2;exact ⟨C,p1,p2,fun h9=>p3 (Z0 h9 (by omega) (by decide))⟩),X3,fun h=>by rw [Z6 _ _ _ _ (by decide)];exact (h0 (Z0 h (by omega) (by decide))),fun h=>Zb _ _ _,fun h=>by rw [Z6 _ _ _ _ (by decide)];exact (h2 (Z0 h (by omega) (by decide))),fun h=>by rw [Z6 _ _ _ _ (by decide)];exact (h3 (Z0 h (by omega) (by decide))),fun h=>by rw [Z6 _ _ _ _ (by decide)];exact (h4 (Z0 h (by omega) (by decide))),fun h=>by rw [Z6 _ _ _ _ (by decide)];exact (h5 (Z0 h (by omega) (by decide))),fun h=>by rw [Z6 _ _ _ _ (by decide)];exact (h6 (Z0 h (by omega) (by decide))),fun h=>by rw [Z6 _ _ _ _ (by decide)];exact (h7 (Z0 h (by omega) (by decide))),fun h=>by rw [Z6 _ _ _ _ (by decide)];exact (h8 (Z0 h (by omega) (by decide))),fun h=>by rw [Z6 _ _ _ _ (by decide)];exact (h9 (Z0 h (by omega) (by decide))),fun h=>by rw [Z6 _ _ _ _ (by decide)];exact (by obtain ⟨b2,c2,ey,ho⟩:=(h10 (Z0 h (by omega) (by decide)));exact ⟨b2,c2,ey,ho.below (Below.refl _ _)⟩),fun h=>by rw [Z6 _ _ _ _ (by decide)];exact (h11 (Z0 h (by omega) (by decide))),fun h=>by rw [Z6 _ _ _ _ (by decide)];exact (h12 (Z0 h (by omega) (by decide))),fun h=>by rw [Z6 _ _ _ _ (by decide)];exact (h13 (Z0 h (by omega) (by decide))),fun h=>by rw [Z6 _ _ _ _ (by decide)];exact (by obtain ⟨b2,c2,ey,ho⟩:=(h14 (Z0 h (by omega) (by decide)));exact ⟨b2,c2,ey,ho.below (Below.refl _ _)⟩),fun h=>trivial⟩
  ·skip
   refine Z8 rfl rfl (Y0 (.tmp 2) (Or.inl rfl) ?_);rw [Zc _ _ _ 2 rfl,e2];exact ⟨_,Z9 _ _ _ 33 _ rfl,hB,X1,(by obtain ⟨C,p1,p2,p3⟩:=X2;exact ⟨C,p1,p2,fun h9=>p3 (Z0 h9 (by omega) (by decide))⟩),X3,fun h=>by rw [Z6 _ _ _ _ (by decide)];exact (h0 (Z0 h (by omega) (by decide))),fun h=>by rw [Z6 _ _ _ _ (by decide)];exact (h1 (Z0 h (by omega) (by decide))),fun h=>Zb _ _ _,fun h=>by rw [Z6 _ _ _ _ (by decide)];exact (h3 (Z0 h (by omega) (by decide))),fun h=>by rw [Z6 _ _ _ _ (by decide)];exact (h4 (Z0 h (by omega) (by decide))),fun h=>by rw [Z6 _ _ _ _ (by decide)];exact (h5 (Z0 h (by omega) (by decide))),fun h=>by rw [Z6 _ _ _ _ (by decide)];exact (h6 (Z0 h (by omega) (by decide))),fun h=>by rw [Z6 _ _ _ _ (by decide)];exact (h7 (Z0 h (by omega) (by decide))),fun h=>by rw [Z6 _ _ _ _ (by decide)];exact (h8 (Z0 h (by omega) (by decide))),fun h=>by rw [Z6 _ _ _ _ (by decide)];exact (h9 (Z0 h (by omega) (by decide))),fun h=>by rw [Z6 _ _ _ _ (by decide)];exact (by obtain ⟨b2,c2,ey,ho⟩:=(h10 (Z0 h (by omega) (by decide)));exact ⟨b2,c2,ey,ho.below (Below.refl _ _)⟩),fun h=>by rw [Z6 _ _ _ _ (by decide)];exact (h11 (Z0 h (by omega) (by decide))),fun h=>by rw [Z6 _ _ _ _ (by decide)];exact (h12 (Z0 h (by omega) (by decide))),fun h=>by rw [Z6 _ _ _ _ (by decide)];exact (h13 (Z0 h (by omega) (by decide))),fun h=>by rw [Z6 _ _ _ _ (by decide)];exact (by obtain ⟨b2,c2,ey,ho⟩:=(h14 (Z0 h (by omega) (by decide)));exact ⟨b2,c2,ey,ho.below (Below.refl _ _)⟩),fun h=>trivial⟩
  ·skip
   refine Z8 rfl rfl (Y0 (.tmp 3) (Or.inl rfl) ?_);rw [Zc _ _ _ 3 rfl,e3];exact ⟨_,Z9 _ _ _ 34 _ rfl,hB,X1,(by obtain ⟨C,p1,p2,p3⟩:=X2;exact ⟨C,p1,p2,fun h9=>p3 (Z0 h9 (by omega) (by decide))⟩),X3,fun h=>by rw [Z6 _ _ _ _ (by decide)];exact (h0 (Z0 h (by omega) (by decide))),fun h=>by rw [Z6 _ _ _ _ (by decide)];exact (h1 (Z0 h (by omega) (by decide))),fun h=>by rw [Z6 _ _ _ _ (by decide)];exact (h2 (Z0 h (by omega) (by decide))),fun h=>Zb _ _ _,fun h=>by rw [Z6 _ _ _ _ (by decide)];exact (h4 (Z0 h (by omega) (by decide))),fun h=>by rw [Z6 _ _ _ _ (by decide)];exact (h5 (Z0 h (by omega) (by decide))),fun h=>by rw [Z6 _ _ _ _ (by decide)];exact (h6 (Z0 h (by omega) (by decide))),fun h=>by rw [Z6 _ _ _ _ (by decide)];exact (h7 (Z0 h (by omega) (by decide))),fun h=>by rw [Z6 _ _ _ _ (by decide)];exact (h8 (Z0 h (by omega) (by decide))),fun h=>by rw [Z6 _ _ _ _ (by decide)];exact (h9 (Z0 h (by omega) (by decide))),fun h=>by rw [Z6 _ _ _ _ (by decide)];exact (by obtain ⟨b2,c2,ey,ho⟩:=(h10 (Z0 h (by omega) (by decide)));exact ⟨b2,c2,ey,ho.below (Below.refl _ _)⟩),fun h=>by rw [Z6 _ _ _ _ (by decide)];exact (h11 (Z0 h (by omega) (by decide))),fun h=>by rw [Z6 _ _ _ _ (by decide)];exact (h12 (Z0 h (by omega) (by decide))),fun h=>by rw [Z6 _ _ _ _ (by decide)];exact (h13 (Z0 h (by omega) (by decide))),fun h=>by rw [Z6 _ _ _ _ (by decide)];exact (by obtain ⟨b2,c2,ey,ho⟩:=(h14 (Z0 h (by omega) (by decide)));exact ⟨b2,c2,ey,ho.below (Below.refl _ _)⟩),fun h=>trivial⟩
  ·skip
   have ev10:(frame a0 [31,32,33,34,35,36,37,38,39,40,41,42,43,44,45] x).tmps[10]?.getD undef=.pointer (some ⟨w.heap.size,0,none⟩):=by have h:=(Zc a0 [31,32,33,34,35,36,37,38,39,40,41,42,43,44,45] x 10 rfl).trans e10;simpa [Act.eval] using h
   refine Z8 rfl rfl (Zd (v:=.pointer (some ⟨w.heap.size,0,none⟩)) ?_ ?_)
   ·obtain ⟨aa,haa⟩:∃ aa,aa=frame a0 [31,32,33,34,35,36,37,38,39,40,41,42,43,44,45] x:=⟨_,rfl⟩
    rw [<-haa] at ev10 ⊢;clear haa HA0;go_simp
   exact ⟨_,Z9 _ _ _ 35 _ rfl,hB,X1,(by obtain ⟨C,p1,p2,p3⟩:=X2;exact ⟨C,p1,p2,fun h9=>p3 (Z0 h9 (by omega) (by decide))⟩),X3,fun h=>by rw [Z6 _ _ _ _ (by decide)];exact (h0 (Z0 h (by omega) (by decide))),fun h=>by rw [Z6 _ _ _ _ (by decide)];exact (h1 (Z0 h (by omega) (by decide))),fun h=>by rw [Z6 _ _ _ _ (by decide)];exact (h2 (Z0 h (by omega) (by decide))),fun h=>by rw [Z6 _ _ _ _ (by decide)];exact (h3 (Z0 h (by omega) (by decide))),fun h=>Zb _ _ _,fun h=>by rw [Z6 _ _ _ _ (by decide)];exact (h5 (Z0 h (by omega) (by decide))),fun h=>by rw [Z6 _ _ _ _ (by decide)];exact (h6 (Z0 h (by omega) (by decide))),fun h=>by rw [Z6 _ _ _ _ (by decide)];exact (h7 (Z0 h (by omega) (by decide))),fun h=>by rw [Z6 _ _ _ _ (by decide)];exact (h8 (Z0 h (by omega) (by decide))),fun h=>by rw [Z6 _ _ _ _ (by decide)];exact (h9 (Z0 h (by omega) (by decide))),fun h=>by rw [Z6 _ _ _ _ (by decide)];exact (by obtain ⟨b2,c2,ey,ho⟩:=(h10 (Z0 h (by omega) (by decide)));exact ⟨b2,c2,ey,ho.below (Below.refl _ _)⟩),fun h=>by rw [Z6 _ _ _ _ (by decide)];exact (h11 (Z0 h (by omega) (by decide))),fun h=>by rw [Z6 _ _ _ _ (by decide)];exact (h12 (Z0 h (by omega) (by decide))),fun h=>by rw [Z6 _ _ _ _ (by decide)];exact (h13 (Z0 h (by omega) (by decide))),fun h=>by rw [Z6 _ _ _ _ (by decide)];exact (by obtain ⟨b2,c2,ey,ho⟩:=(h14 (Z0 h (by omega) (by decide)));exact ⟨b2,c2,ey,ho.below (Below.refl _ _)⟩),fun h=>trivial⟩
  ·have d4:=h4 (Z7 hi (by decide))
   have cc:w'.cell? ⟨w.heap.size,0,none⟩=some (.int .i64 t):=X1.cell 0;have ev35:(frame a0 [31,32,33,34,35,36,37,38,39,40,41,42,43,44,45] x).tmps[35]?.getD undef=.pointer (some ⟨w.heap.size,0,none⟩):=by have h:=(Z4 a0 [31,32,33,34,35,36,37,38,39,40,41,42,43,44,45] x 35 rfl (by omega)).trans d4;simpa [Act.eval] using h
   refine Z8 rfl rfl (Zd (v:=.int .i64 t) ?_ ?_)
   ·obtain ⟨aa,haa⟩:∃ aa,aa=frame a0 [31,32,33,34,35,36,37,38,39,40,41,42,43,44,45] x:=⟨_,rfl⟩
    rw [<-haa] at ev35 ⊢;clear haa HA0;go_simp
   exact ⟨_,Z9 _ _ _ 36 _ rfl,hB,X1,(by obtain ⟨C,p1,p2,p3⟩:=X2;exact ⟨C,p1,p2,fun h9=>p3 (Z0 h9 (by omega) (by decide))⟩),X3,fun h=>by rw [Z6 _ _ _ _ (by decide)];exact (h0 (Z0 h (by omega) (by decide))),fun h=>by rw [Z6 _ _ _ _ (by decide)];exact (h1 (Z0 h (by omega) (by decide))),fun h=>by rw [Z6 _ _ _ _ (by decide)];exact (h2 (Z0 h (by omega) (by decide))),fun h=>by rw [Z6 _ _ _ _ (by decide)];exact (h3 (Z0 h (by omega) (by decide))),fun h=>by rw [Z6 _ _ _ _ (by decide)];exact (h4 (Z0 h (by omega) (by decide))),fun h=>Zb _ _ _,fun h=>by rw [Z6 _ _ _ _ (by decide)];exact (h6 (Z0 h (by omega) (by decide))),fun h=>by rw [Z6 _ _ _ _ (by decide)];exact (h7 (Z0 h (by omega) (by decide))),fun h=>by rw [Z6 _ _ _ _ (by decide)];exact (h8 (Z0 h (by omega) (by decide))),fun h=>by rw [Z6 _ _ _ _ (by decide)];exact (h9 (Z0 h (by omega) (by decide))),fun h=>by rw [Z6 _ _ _ _ (by decide)];exact (by obtain ⟨b2,c2,ey,ho⟩:=(h10 (Z0 h (by omega) (by decide)));exact ⟨b2,c2,ey,ho.below (Below.refl _ _)⟩),fun h=>by rw [Z6 _ _ _ _ (by decide)];exact (h11 (Z0 h (by omega) (by decide))),fun h=>by rw [Z6 _ _ _ _ (by decide)];exact (h12 (Z0 h (by omega) (by decide))),fun h=>by rw [Z6 _ _ _ _ (by decide)];exact (h13 (Z0 h (by omega) (by decide))),fun h=>by rw [Z6 _ _ _ _ (by decide)];exact (by obtain ⟨b2,c2,ey,ho⟩:=(h14 (Z0 h (by omega) (by decide)));exact ⟨b2,c2,ey,ho.below (Below.refl _ _)⟩),fun h=>trivial⟩
  ·skip
   have ev10:(frame a0 [31,32,33,34,35,36,37,38,39,40,41,42,43,44,45] x).tmps[10]?.getD undef=.pointer (some ⟨w.heap.size,0,none⟩):=by have h:=(Zc a0 [31,32,33,34,35,36,37,38,39,40,41,42,43,44,45] x 10 rfl).trans e10;simpa [Act.eval] using h
   refine Z8 rfl rfl (Zd (v:=.pointer (some ⟨w.heap.size,1,none⟩)) ?_ ?_)
   ·obtain ⟨aa,haa⟩:∃ aa,aa=frame a0 [31,32,33,34,35,36,37,38,39,40,41,42,43,44,45] x:=⟨_,rfl⟩
    rw [<-haa] at ev10 ⊢;clear haa HA0;go_simp
   exact ⟨_,Z9 _ _ _ 37 _ rfl,hB,X1,(by obtain ⟨C,p1,p2,p3⟩:=X2;exact ⟨C,p1,p2,fun h9=>p3 (Z0 h9 (by omega) (by decide))⟩),X3,fun h=>by rw [Z6 _ _ _ _ (by decide)];exact (h0 (Z0 h (by omega) (by decide))),fun h=>by rw [Z6 _ _ _ _ (by decide)];exact (h1 (Z0 h (by omega) (by decide))),fun h=>by rw [Z6 _ _ _ _ (by decide)];exact (h2 (Z0 h (by omega) (by decide))),fun h=>by rw [Z6 _ _ _ _ (by decide)];exact (h3 (Z0 h (by omega) (by decide))),fun h=>by rw [Z6 _ _ _ _ (by decide)];exact (h4 (Z0 h (by omega) (by decide))),fun h=>by rw [Z6 _ _ _ _ (by decide)];exact (h5 (Z0 h (by omega) (by decide))),fun h=>Zb _ _ _,fun h=>by rw [Z6 _ _ _ _ (by decide)];exact (h7 (Z0 h (by omega) (by decide))),fun h=>by rw [Z6 _ _ _ _ (by decide)];exact (h8 (Z0 h (by omega) (by decide))),fun h=>by rw [Z6 _ _ _ _ (by decide)];exact (h9 (Z0 h (by omega) (by decide))),fun h=>by rw [Z6 _ _ _ _ (by decide)];exact (by obtain ⟨b2,c2,ey,ho⟩:=(h10 (Z0 h (by omega) (by decide)));exact ⟨b2,c2,ey,ho.below (Below.refl _ _)⟩),fun h=>by rw [Z6 _ _ _ _ (by decide)];exact (h11 (Z0 h (by omega) (by decide))),fun h=>by rw [Z6 _ _ _ _ (by decide)];exact (h12 (Z0 h (by omega) (by decide))),fun h=>by rw [Z6 _ _ _ _ (by decide)];exact (h13 (Z0 h (by omega) (by decide))),fun h=>by rw [Z6 _ _ _ _ (by decide)];exact (by obtain ⟨b2,c2,ey,ho⟩:=(h14 (Z0 h (by omega) (by decide)));exact ⟨b2,c2,ey,ho.below (Below.refl _ _)⟩),fun h=>trivial⟩
  ·have d6:=h6 (Z7 hi (by decide))
   have cc:w'.cell? ⟨w.heap.size,1,none⟩=some (.int .i64 v):=X1.cell 1;have ev37:(frame a0 [31,32,33,34,35,36,37,38,39,40,41,42,43,44,45] x).tmps[37]?.getD undef=.pointer (some ⟨w.heap.size,1,none⟩):=by have h:=(Z4 a0 [31,32,33,34,35,36,37,38,39,40,41,42,43,44,45] x 37 rfl (by omega)).trans d6;simpa [Act.eval] using h
   refine Z8 rfl rfl (Zd (v:=.int .i64 v) ?_ ?_)
   ·obtain ⟨aa,haa⟩:∃ aa,aa=frame a0 [31,32,33,34,35,36,37,38,39,40,41,42,43,44,45] x:=⟨_,rfl⟩
    rw [<-haa] at ev37 ⊢;clear haa HA0;go_simp
   exact ⟨_,Z9 _ _ _ 38 _ rfl,hB,X1,(by obtain ⟨C,p1,p2,p3⟩:=X2;exact ⟨C,p1,p2,fun h9=>p3 (Z0 h9 (by omega) (by decide))⟩),X3,fun h=>by rw [Z6 _ _ _ _ (by decide)];exact (h0 (Z0 h (by omega) (by decide))),fun h=>by rw [Z6 _ _ _ _ (by decide)];exact (h1 (Z0 h (by omega) (by decide))),fun h=>by rw [Z6 _ _ _ _ (by decide)];exact (h2 (Z0 h (by omega) (by decide))),fun h=>by rw [Z6 _ _ _ _ (by decide)];exact (h3 (Z0 h (by omega) (by decide))),fun h=>by rw [Z6 _ _ _ _ (by decide)];exact (h4 (Z0 h (by omega) (by decide))),fun h=>by rw [Z6 _ _ _ _ (by decide)];exact (h5 (Z0 h (by omega) (by decide))),fun h=>by rw [Z6 _ _ _ _ (by decide)];exact (h6 (Z0 h (by omega) (by decide))),fun h=>Zb _ _ _,fun h=>by rw [Z6 _ _ _ _ (by decide)];exact (h8 (Z0 h (by omega) (by decide))),fun h=>by rw [Z6 _ _ _ _ (by decide)];exact (h9 (Z0 h (by omega) (by decide))),fun h=>by rw [Z6 _ _ _ _ (by decide)];exact (by obtain ⟨b2,c2,ey,ho⟩:=(h10 (Z0 h (by omega) (by decide)));exact ⟨b2,c2,ey,ho.below (Below.refl _ _)⟩),fun h=>by rw [Z6 _ _ _ _ (by decide)];exact (h11 (Z0 h (by omega) (by decide))),fun h=>by rw [Z6 _ _ _ _ (by decide)];exact (h12 (Z0 h (by omega) (by decide))),fun h=>by rw [Z6 _ _ _ _ (by decide)];exact (h13 (Z0 h (by omega) (by decide))),fun h=>by rw [Z6 _ _ _ _ (by decide)];exact (by obtain ⟨b2,c2,ey,ho⟩:=(h14 (Z0 h (by omega) (by decide)));exact ⟨b2,c2,ey,ho.below (Below.refl _ _)⟩),fun h=>trivial⟩
  ·skip
   have ev10:(frame a0 [31,32,33,34,35,36,37,38,39,40,41,42,43,44,45] x).tmps[10]?.getD undef=.pointer (some ⟨w.heap.size,0,none⟩):=by have h:=(Zc a0 [31,32,33,34,35,36,37,38,39,40,41,42,43,44,45] x 10 rfl).trans e10;simpa [Act.eval] using h
   refine Z8 rfl rfl (Zd (v:=.pointer (some ⟨w.heap.size,2,none⟩)) ?_ ?_)
   ·obtain ⟨aa,haa⟩:∃ aa,aa=frame a0 [31,32,33,34,35,36,37,38,39,40,41,42,43,44,45] x:=⟨_,rfl⟩
    rw [<-haa] at ev10 ⊢;clear haa HA0;go_simp
   exact ⟨_,Z9 _ _ _ 39 _ rfl,hB,X1,(by obtain ⟨C,p1,p2,p3⟩:=X2;exact ⟨C,p1,p2,fun h9=>p3 (Z0 h9 (by omega) (by decide))⟩),X3,fun h=>by rw [Z6 _ _ _ _ (by decide)];exact (h0 (Z0 h (by omega) (by decide))),fun h=>by rw [Z6 _ _ _ _ (by decide)];exact (h1 (Z0 h (by omega) (by decide))),fun h=>by rw [Z6 _ _ _ _ (by decide)];exact (h2 (Z0 h (by omega) (by decide))),fun h=>by rw [Z6 _ _ _ _ (by decide)];exact (h3 (Z0 h (by omega) (by decide))),fun h=>by rw [Z6 _ _ _ _ (by decide)];exact (h4 (Z0 h (by omega) (by decide))),fun h=>by rw [Z6 _ _ _ _ (by decide)];exact (h5 (Z0 h (by omega) (by decide))),fun h=>by rw [Z6 _ _ _ _ (by decide)];exact (h6 (Z0 h (by omega) (by decide))),fun h=>by rw [Z6 _ _ _ _ (by decide)];exact (h7 (Z0 h (by omega) (by decide))),fun h=>Zb _ _ _,fun h=>by rw [Z6 _ _ _ _ (by decide)];exact (h9 (Z0 h (by omega) (by decide))),fun h=>by rw [Z6 _ _ _ _ (by decide)];exact (by obtain ⟨b2,c2,ey,ho⟩:=(h10 (Z0 h (by omega) (by decide)));exact ⟨b2,c2,ey,ho.below (Below.refl _ _)⟩),fun h=>by rw [Z6 _ _ _ _ (by decide)];exact (h11 (Z0 h (by omega) (by decide))),fun h=>by rw [Z6 _ _ _ _ (by decide)];exact (h12 (Z0 h (by omega) (by decide))),fun h=>by rw [Z6 _ _ _ _ (by decide)];exact (h13 (Z0 h (by omega) (by decide))),fun h=>by rw [Z6 _ _ _ _ (by decide)];exact (by obtain ⟨b2,c2,ey,ho⟩:=(h14 (Z0 h (by omega) (by decide)));exact ⟨b2,c2,ey,ho.below (Below.refl _ _)⟩),fun h=>trivial⟩
  ·have d8:=h8 (Z7 hi (by decide))
   have cc:w'.cell? ⟨w.heap.size,2,none⟩=some (.slice a l.length cap):=X1.cell 2;have ev39:(frame a0 [31,32,33,34,35,36,37,38,39,40,41,42,43,44,45] x).tmps[39]?.getD undef=.pointer (some ⟨w.heap.size,2,none⟩):=by have h:=(Z4 a0 [31,32,33,34,35,36,37,38,39,40,41,42,43,44,45] x 39 rfl (by omega)).trans d8;simpa [Act.eval] using h
   refine Z8 rfl rfl (Zd (v:=.slice a l.length cap) ?_ ?_)
   ·obtain ⟨aa,haa⟩:∃ aa,aa=frame a0 [31,32,33,34,35,36,37,38,39,40,41,42,43,44,45] x:=⟨_,rfl⟩
    rw [<-haa] at ev39 ⊢;clear haa HA0;go_simp
   exact ⟨_,Z9 _ _ _ 40 _ rfl,hB,X1,(by obtain ⟨C,p1,p2,p3⟩:=X2;exact ⟨C,p1,p2,fun h9=>p3 (Z0 h9 (by omega) (by decide))⟩),X3,fun h=>by rw [Z6 _ _ _ _ (by decide)];exact (h0 (Z0 h (by omega) (by decide))),fun h=>by rw [Z6 _ _ _ _ (by decide)];exact (h1 (Z0 h (by omega) (by decide))),fun h=>by rw [Z6 _ _ _ _ (by decide)];exact (h2 (Z0 h (by omega) (by decide))),fun h=>by rw [Z6 _ _ _ _ (by decide)];exact (h3 (Z0 h (by omega) (by decide))),fun h=>by rw [Z6 _ _ _ _ (by decide)];exact (h4 (Z0 h (by omega) (by decide))),fun h=>by rw [Z6 _ _ _ _ (by decide)];exact (h5 (Z0 h (by omega) (by decide))),fun h=>by rw [Z6 _ _ _ _ (by decide)];exact (h6 (Z0 h (by omega) (by decide))),fun h=>by rw [Z6 _ _ _ _ (by decide)];exact (h7 (Z0 h (by omega) (by decide))),fun h=>by rw [Z6 _ _ _ _ (by decide)];exact (h8 (Z0 h (by omega) (by decide))),fun h=>Zb _ _ _,fun h=>by rw [Z6 _ _ _ _ (by decide)];exact (by obtain ⟨b2,c2,ey,ho⟩:=(h10 (Z0 h (by omega) (by decide)));exact ⟨b2,c2,ey,ho.below (Below.refl _ _)⟩),fun h=>by rw [Z6 _ _ _ _ (by decide)];exact (h11 (Z0 h (by omega) (by decide))),fun h=>by rw [Z6 _ _ _ _ (by decide)];exact (h12 (Z0 h (by omega) (by decide))),fun h=>by rw [Z6 _ _ _ _ (by decide)];exact (h13 (Z0 h (by omega) (by decide))),fun h=>by rw [Z6 _ _ _ _ (by decide)];exact (by obtain ⟨b2,c2,ey,ho⟩:=(h14 (Z0 h (by omega) (by decide)));exact ⟨b2,c2,ey,ho.below (Below.refl _ _)⟩),fun h=>trivial⟩
  ·have d9:=h9 (Z7 hi (by decide))
   have ev40:=(Z4 a0 [31,32,33,34,35,36,37,38,39,40,41,42,43,44,45] x 40 rfl (by omega)).trans d9;refine Z8 rfl rfl (Y4 (N:=102) rfl (fun _ _=>by go_simp) #[.slice a l.length cap] (by simp only [List.map_toArray,List.map_cons,List.map_nil,ev40]) ?_);refine Calls.mono (l4entries_any _ l _ (HV.out.below hB) (by omega)) ?_;rintro e w2 ⟨v2,rfl,ho,hb⟩;refine ⟨_,rfl,?_⟩;exact ⟨_,Z9 _ _ _ 41 _ rfl,hB.trans (hb.mono hw'),X1.below hb X1.lt,(by obtain ⟨C,p1,p2,p3⟩:=X2;exact ⟨C,p1.below hb p1.lt,p2,fun h9=>by obtain ⟨b,c,q1,q2⟩:=p3 (Z0 h9 (by omega) (by decide));exact ⟨b,c,q1,q2.below hb⟩⟩),Nat.le_trans X3 hb.size,fun h=>by rw [Z6 _ _ _ _ (by decide)];exact (h0 (Z0 h (by omega) (by decide))),fun h=>by rw [Z6 _ _ _ _ (by decide)];exact (h1 (Z0 h (by omega) (by decide))),fun h=>by rw [Z6 _ _ _ _ (by decide)];exact (h2 (Z0 h (by omega) (by decide))),fun h=>by rw [Z6 _ _ _ _ (by decide)];exact (h3 (Z0 h (by omega) (by decide))),fun h=>by rw [Z6 _ _ _ _ (by decide)];exact (h4 (Z0 h (by omega) (by decide))),fun h=>by rw [Z6 _ _ _ _ (by decide)];exact (h5 (Z0 h (by omega) (by decide))),fun h=>by rw [Z6 _ _ _ _ (by decide)];exact (h6 (Z0 h (by omega) (by decide))),fun h=>by rw [Z6 _ _ _ _ (by decide)];exact (h7 (Z0 h (by omega) (by decide))),fun h=>by rw [Z6 _ _ _ _ (by decide)];exact (h8 (Z0 h (by omega) (by decide))),fun h=>by rw [Z6 _ _ _ _ (by decide)];exact (h9 (Z0 h (by omega) (by decide))),fun h=>(by obtain ⟨b2,c2,rfl⟩:=ho.shape;exact ⟨b2,c2,Zb _ _ _,ho.le X3⟩),fun h=>by rw [Z6 _ _ _ _ (by decide)];exact (h11 (Z0 h (by omega) (by decide))),fun h=>by rw [Z6 _ _ _ _ (by decide)];exact (h12 (Z0 h (by omega) (by decide))),fun h=>by rw [Z6 _ _ _ _ (by decide)];exact (h13 (Z0 h (by omega) (by decide))),fun h=>by rw [Z6 _ _ _ _ (by decide)];exact (by obtain ⟨b2,c2,ey,ho⟩:=(h14 (Z0 h (by omega) (by decide)));exact ⟨b2,c2,ey,ho.below hb⟩),fun h=>trivial⟩
  ·skip
   refine Z8 rfl rfl (Y0 (.tmp 2) (Or.inl rfl) ?_);rw [Zc _ _ _ 2 rfl,e2];exact ⟨_,Z9 _ _ _ 42 _ rfl,hB,X1,(by obtain ⟨C,p1,p2,p3⟩:=X2;exact ⟨C,p1,p2,fun h9=>p3 (Z0 h9 (by omega) (by decide))⟩),X3,fun h=>by rw [Z6 _ _ _ _ (by decide)];exact (h0 (Z0 h (by omega) (by decide))),fun h=>by rw [Z6 _ _ _ _ (by decide)];exact (h1 (Z0 h (by omega) (by decide))),fun h=>by rw [Z6 _ _ _ _ (by decide)];exact (h2 (Z0 h (by omega) (by decide))),fun h=>by rw [Z6 _ _ _ _ (by decide)];exact (h3 (Z0 h (by omega) (by decide))),fun h=>by rw [Z6 _ _ _ _ (by decide)];exact (h4 (Z0 h (by omega) (by decide))),fun h=>by rw [Z6 _ _ _ _ (by decide)];exact (h5 (Z0 h (by omega) (by decide))),fun h=>by rw [Z6 _ _ _ _ (by decide)];exact (h6 (Z0 h (by omega) (by decide))),fun h=>by rw [Z6 _ _ _ _ (by decide)];exact (h7 (Z0 h (by omega) (by decide))),fun h=>by rw [Z6 _ _ _ _ (by decide)];exact (h8 (Z0 h (by omega) (by decide))),fun h=>by rw [Z6 _ _ _ _ (by decide)];exact (h9 (Z0 h (by omega) (by decide))),fun h=>by rw [Z6 _ _ _ _ (by decide)];exact (by obtain ⟨b2,c2,ey,ho⟩:=(h10 (Z0 h (by omega) (by decide)));exact ⟨b2,c2,ey,ho.below (Below.refl _ _)⟩),fun h=>Zb _ _ _,fun h=>by rw [Z6 _ _ _ _ (by decide)];exact (h12 (Z0 h (by omega) (by decide))),fun h=>by rw [Z6 _ _ _ _ (by decide)];exact (h13 (Z0 h (by omega) (by decide))),fun h=>by rw [Z6 _ _ _ _ (by decide)];exact (by obtain ⟨b2,c2,ey,ho⟩:=(h14 (Z0 h (by omega) (by decide)));exact ⟨b2,c2,ey,ho.below (Below.refl _ _)⟩),fun h=>trivial⟩
  ·skip
   refine Z8 rfl rfl (Y0 (.tmp 5) (Or.inl rfl) ?_);rw [Zc _ _ _ 5 rfl,e5];exact ⟨_,Z9 _ _ _ 43 _ rfl,hB,X1,(by obtain ⟨C,p1,p2,p3⟩:=X2;exact ⟨C,p1,p2,fun h9=>p3 (Z0 h9 (by omega) (by decide))⟩),X3,fun h=>by rw [Z6 _ _ _ _ (by decide)];exact (h0 (Z0 h (by omega) (by decide))),fun h=>by rw [Z6 _ _ _ _ (by decide)];exact (h1 (Z0 h (by omega) (by decide))),fun h=>by rw [Z6 _ _ _ _ (by decide)];exact (h2 (Z0 h (by omega) (by decide))),fun h=>by rw [Z6 _ _ _ _ (by decide)];exact (h3 (Z0 h (by omega) (by decide))),fun h=>by rw [Z6 _ _ _ _ (by decide)];exact (h4 (Z0 h (by omega) (by decide))),fun h=>by rw [Z6 _ _ _ _ (by decide)];exact (h5 (Z0 h (by omega) (by decide))),fun h=>by rw [Z6 _ _ _ _ (by decide)];exact (h6 (Z0 h (by omega) (by decide))),fun h=>by rw [Z6 _ _ _ _ (by decide)];exact (h7 (Z0 h (by omega) (by decide))),fun h=>by rw [Z6 _ _ _ _ (by decide)];exact (h8 (Z0 h (by omega) (by decide))),fun h=>by rw [Z6 _ _ _ _ (by decide)];exact (h9 (Z0 h (by omega) (by decide))),fun h=>by rw [Z6 _ _ _ _ (by decide)];exact (by obtain ⟨b2,c2,ey,ho⟩:=(h10 (Z0 h (by omega) (by decide)));exact ⟨b2,c2,ey,ho.below (Below.refl _ _)⟩),fun h=>by rw [Z6 _ _ _ _ (by decide)];exact (h11 (Z0 h (by omega) (by decide))),fun h=>Zb _ _ _,fun h=>by rw [Z6 _ _ _ _ (by decide)];exact (h13 (Z0 h (by omega) (by decide))),fun h=>by rw [Z6 _ _ _ _ (by decide)];exact (by obtain ⟨b2,c2,ey,ho⟩:=(h14 (Z0 h (by omega) (by decide)));exact ⟨b2,c2,ey,ho.below (Below.refl _ _)⟩),fun h=>trivial⟩
  ·have d11:=h11 (Z7 hi (by decide))
   have d12:=h12 (Z7 hi (by decide));have ev42:=(Z4 a0 [31,32,33,34,35,36,37,38,39,40,41,42,43,44,45] x 42 rfl (by omega)).trans d11;have ev43:=(Z4 a0 [31,32,33,34,35,36,37,38,39,40,41,42,43,44,45] x 43 rfl (by omega)).trans d12;refine Z8 rfl rfl (Y4 (N:=103) rfl (fun _ _=>by go_simp) #[.int .i64 el,.int .i64 dr] (by simp only [List.map_toArray,List.map_cons,List.map_nil,ev42,ev43]) ?_);refine Calls.mono (Z3x el dr hd1 hd2 _) ?_;rintro e w2 ⟨rfl,hwe⟩;have hb:Below w'.heap.size w' w2:=by rw [hwe];exact Below.refl _ _
   refine ⟨_,rfl,?_⟩;exact ⟨_,Z9 _ _ _ 44 _ rfl,hB.trans (hb.mono hw'),X1.below hb X1.lt,(by obtain ⟨C,p1,p2,p3⟩:=X2;exact ⟨C,p1.below hb p1.lt,p2,fun h9=>by obtain ⟨b,c,q1,q2⟩:=p3 (Z0 h9 (by omega) (by decide));exact ⟨b,c,q1,q2.below hb⟩⟩),Nat.le_trans X3 hb.size,fun h=>by rw [Z6 _ _ _ _ (by decide)];exact (h0 (Z0 h (by omega) (by decide))),fun h=>by rw [Z6 _ _ _ _ (by decide)];exact (h1 (Z0 h (by omega) (by decide))),fun h=>by rw [Z6 _ _ _ _ (by decide)];exact (h2 (Z0 h (by omega) (by decide))),fun h=>by rw [Z6 _ _ _ _ (by decide)];exact (h3 (Z0 h (by omega) (by decide))),fun h=>by rw [Z6 _ _ _ _ (by decide)];exact (h4 (Z0 h (by omega) (by decide))),fun h=>by rw [Z6 _ _ _ _ (by decide)];exact (h5 (Z0 h (by omega) (by decide))),fun h=>by rw [Z6 _ _ _ _ (by decide)];exact (h6 (Z0 h (by omega) (by decide))),fun h=>by rw [Z6 _ _ _ _ (by decide)];exact (h7 (Z0 h (by omega) (by decide))),fun h=>by rw [Z6 _ _ _ _ (by decide)];exact (h8 (Z0 h (by omega) (by decide))),fun h=>by rw [Z6 _ _ _ _ (by decide)];exact (h9 (Z0 h (by omega) (by decide))),fun h=>by rw [Z6 _ _ _ _ (by decide)];exact (by obtain ⟨b2,c2,ey,ho⟩:=(h10 (Z0 h (by omega) (by decide)));exact ⟨b2,c2,ey,ho.below hb⟩),fun h=>by rw [Z6 _ _ _ _ (by decide)];exact (h11 (Z0 h (by omega) (by decide))),fun h=>by rw [Z6 _ _ _ _ (by decide)];exact (h12 (Z0 h (by omega) (by decide))),fun h=>Zb _ _ _,fun h=>by rw [Z6 _ _ _ _ (by decide)];exact (by obtain ⟨b2,c2,ey,ho⟩:=(h14 (Z0 h (by omega) (by decide)));exact ⟨b2,c2,ey,ho.below hb⟩),fun h=>trivial⟩
  ·have d0:=h0 (Z7 hi (by decide))
   have d1:=h1 (Z7 hi (by decide));have d2:=h2 (Z7 hi (by decide));have d3:=h3 (Z7 hi (by decide));have d5:=h5 (Z7 hi (by decide));have d7:=h7 (Z7 hi (by decide));have d10:=h10 (Z7 hi (by decide));have d13:=h13 (Z7 hi (by decide));obtain ⟨b2,c2,ey,ho2⟩:=d10;have ev31:(frame a0 [31,32,33,34,35,36,37,38,39,40,41,42,43,44,45] x).tmps[31]?.getD undef=.int .i64 id:=by have h:=(Z4 a0 [31,32,33,34,35,36,37,38,39,40,41,42,43,44,45] x 31 rfl (by omega)).trans d0;simpa [Act.eval] using h
   have ev32:(frame a0 [31,32,33,34,35,36,37,38,39,40,41,42,43,44,45] x).tmps[32]?.getD undef=.int .i64 sz:=by have h:=(Z4 a0 [31,32,33,34,35,36,37,38,39,40,41,42,43,44,45] x 32 rfl (by omega)).trans d1;simpa [Act.eval] using h
   have ev33:(frame a0 [31,32,33,34,35,36,37,38,39,40,41,42,43,44,45] x).tmps[33]?.getD undef=.int .i64 el:=by have h:=(Z4 a0 [31,32,33,34,35,36,37,38,39,40,41,42,43,44,45] x 33 rfl (by omega)).trans d2;simpa [Act.eval] using h
   have ev34:(frame a0 [31,32,33,34,35,36,37,38,39,40,41,42,43,44,45] x).tmps[34]?.getD undef=.int .i64 bt:=by have h:=(Z4 a0 [31,32,33,34,35,36,37,38,39,40,41,42,43,44,45] x 34 rfl (by omega)).trans d3;simpa [Act.eval] using h
   have ev36:(frame a0 [31,32,33,34,35,36,37,38,39,40,41,42,43,44,45] x).tmps[36]?.getD undef=.int .i64 t:=by have h:=(Z4 a0 [31,32,33,34,35,36,37,38,39,40,41,42,43,44,45] x 36 rfl (by omega)).trans d5;simpa [Act.eval] using h
   have ev38:(frame a0 [31,32,33,34,35,36,37,38,39,40,41,42,43,44,45] x).tmps[38]?.getD undef=.int .i64 v:=by have h:=(Z4 a0 [31,32,33,34,35,36,37,38,39,40,41,42,43,44,45] x 38 rfl (by omega)).trans d7;simpa [Act.eval] using h
   have ev41:(frame a0 [31,32,33,34,35,36,37,38,39,40,41,42,43,44,45] x).tmps[41]?.getD undef=.slice b2 l.length c2:=by have h:=(Z4 a0 [31,32,33,34,35,36,37,38,39,40,41,42,43,44,45] x 41 rfl (by omega)).trans ey;simpa [Act.eval] using h
   have ev44:(frame a0 [31,32,33,34,35,36,37,38,39,40,41,42,43,44,45] x).tmps[44]?.getD undef=.int .i64 (J3 el dr):=by have h:=(Z4 a0 [31,32,33,34,35,36,37,38,39,40,41,42,43,44,45] x 44 rfl (by omega)).trans d13;simpa [Act.eval] using h
   refine Z8 rfl rfl (Zd (v:=.agg #[.int .i64 id,.int .i64 sz,.int .i64 el,.int .i64 bt,.int .i64 t,.int .i64 v,.int .i64 0,.int .i64 0,.int .i64 0,.int .i64 0,.int .i64 (J3 el dr),.int .i64 0,.slice b2 l.length c2,.slice none 0 0,.slice none 0 0,.slice none 0 0,.slice none 0 0,.slice none 0 0]) ?_ ?_)
   ·obtain ⟨aa,haa⟩:∃ aa,aa=frame a0 [31,32,33,34,35,36,37,38,39,40,41,42,43,44,45] x:=⟨_,rfl⟩
    rw [<-haa] at ev31 ev32 ev33 ev34 ev36 ev38 ev41 ev44 ⊢;clear haa HA0;go_simp
   exact ⟨_,Z9 _ _ _ 45 _ rfl,hB,X1,(by obtain ⟨C,p1,p2,p3⟩:=X2;exact ⟨C,p1,p2,fun h9=>p3 (Z0 h9 (by omega) (by decide))⟩),X3,fun h=>by rw [Z6 _ _ _ _ (by decide)];exact (h0 (Z0 h (by omega) (by decide))),fun h=>by rw [Z6 _ _ _ _ (by decide)];exact (h1 (Z0 h (by omega) (by decide))),fun h=>by rw [Z6 _ _ _ _ (by decide)];exact (h2 (Z0 h (by omega) (by decide))),fun h=>by rw [Z6 _ _ _ _ (by decide)];exact (h3 (Z0 h (by omega) (by decide))),fun h=>by rw [Z6 _ _ _ _ (by decide)];exact (h4 (Z0 h (by omega) (by decide))),fun h=>by rw [Z6 _ _ _ _ (by decide)];exact (h5 (Z0 h (by omega) (by decide))),fun h=>by rw [Z6 _ _ _ _ (by decide)];exact (h6 (Z0 h (by omega) (by decide))),fun h=>by rw [Z6 _ _ _ _ (by decide)];exact (h7 (Z0 h (by omega) (by decide))),fun h=>by rw [Z6 _ _ _ _ (by decide)];exact (h8 (Z0 h (by omega) (by decide))),fun h=>by rw [Z6 _ _ _ _ (by decide)];exact (h9 (Z0 h (by omega) (by decide))),fun h=>by rw [Z6 _ _ _ _ (by decide)];exact (by obtain ⟨b2,c2,ey,ho⟩:=(h10 (Z0 h (by omega) (by decide)));exact ⟨b2,c2,ey,ho.below (Below.refl _ _)⟩),fun h=>by rw [Z6 _ _ _ _ (by decide)];exact (h11 (Z0 h (by omega) (by decide))),fun h=>by rw [Z6 _ _ _ _ (by decide)];exact (h12 (Z0 h (by omega) (by decide))),fun h=>by rw [Z6 _ _ _ _ (by decide)];exact (h13 (Z0 h (by omega) (by decide))),fun h=>⟨b2,c2,Zb _ _ _,ho2⟩,fun h=>trivial⟩
  ·have d14:=h14 (Z7 hi (by decide))
   obtain ⟨b2,c2,ey,ho2⟩:=d14;obtain ⟨C,p1,p2,p3⟩:=X2;have evp:=(Zc a0 [31,32,33,34,35,36,37,38,39,40,41,42,43,44,45] x 12 rfl).trans e12;have evs:=(Z4 a0 [31,32,33,34,35,36,37,38,39,40,41,42,43,44,45] x 45 rfl (by omega)).trans ey;refine Z8 rfl rfl (Jq 36 (.tmp 12) (.tmp 45) rfl (w.heap.size+1) evp evs p1 Z0y rfl p2 (by simp [Value.oneCell']) ?_);exact ⟨_,rfl,J0 hB (by omega) _,X1.row_other _ (by omega),⟨_,p1.row _,rfl,fun _=>⟨b2,c2,rfl,ho2.block fun k hk=>setRow_other _ _ _ _ (by have h9:=(ho2.2.lt k hk).1;omega)⟩⟩,(by rw [setRow_size];exact X3),fun h=>(h0 (Z0 h (by omega) (by decide))),fun h=>(h1 (Z0 h (by omega) (by decide))),fun h=>(h2 (Z0 h (by omega) (by decide))),fun h=>(h3 (Z0 h (by omega) (by decide))),fun h=>(h4 (Z0 h (by omega) (by decide))),fun h=>(h5 (Z0 h (by omega) (by decide))),fun h=>(h6 (Z0 h (by omega) (by decide))),fun h=>(h7 (Z0 h (by omega) (by decide))),fun h=>(h8 (Z0 h (by omega) (by decide))),fun h=>(h9 (Z0 h (by omega) (by decide))),fun h=>(by obtain ⟨b2,c2,ey,ho⟩:=(h10 (Z0 h (by omega) (by decide)));exact ⟨b2,c2,ey,ho.block fun k hk=>setRow_other _ _ _ _ (by have h9:=(ho.2.lt k hk).1;omega)⟩),fun h=>(h11 (Z0 h (by omega) (by decide))),fun h=>(h12 (Z0 h (by omega) (by decide))),fun h=>(h13 (Z0 h (by omega) (by decide))),fun h=>(by obtain ⟨b2,c2,ey,ho⟩:=(h14 (Z0 h (by omega) (by decide)));exact ⟨b2,c2,ey,ho.block fun k hk=>setRow_other _ _ _ _ (by have h9:=(ho.2.lt k hk).1;omega)⟩),fun h=>trivial⟩
 ·rintro L a w' hsL hr ⟨x,rfl,hB,X1,X2,X3,h0,h1,h2,h3,h4,h5,h6,h7,h8,h9,h10,h11,h12,h13,h14,h15⟩
  have hall:=Yq hsL hr (by decide);replace h0:=h0 (hall 0 (by decide));replace h1:=h1 (hall 1 (by decide));replace h2:=h2 (hall 2 (by decide));replace h3:=h3 (hall 3 (by decide));replace h4:=h4 (hall 4 (by decide));replace h5:=h5 (hall 5 (by decide));replace h6:=h6 (hall 6 (by decide));replace h7:=h7 (hall 7 (by decide));replace h8:=h8 (hall 8 (by decide));replace h9:=h9 (hall 9 (by decide));replace h10:=h10 (hall 10 (by decide));replace h11:=h11 (hall 11 (by decide));replace h12:=h12 (hall 12 (by decide));replace h13:=h13 (hall 13 (by decide));replace h14:=h14 (hall 14 (by decide));replace h15:=h15 (hall 15 (by decide));rw [HA0.out];simp only [frame,List.zipIdx_cons,List.zipIdx_nil,List.map_cons,List.map_nil,List.contains_cons,List.contains_nil,Nat.reduceBEq,Nat.reduceAdd,Bool.or_false,Bool.false_or,Bool.or_true,Bool.true_or,Bool.false_eq_true,if_false,if_true,h0,h1,h2,h3,h4,h5,h6,h7,h8,h9,h11,h12,h13,h15];obtain ⟨C,p1,p2,p3⟩:=X2;obtain ⟨b2,c2,rfl,ho2⟩:=p3 (hall 15 (by decide));go_wp2;exact bodyPost_ret (v:=.agg #[.int .i64 id,.int .i64 sz,.int .i64 el,.int .i64 bt,.int .i64 t,.int .i64 v,.int .i64 0,.int .i64 0,.int .i64 0,.int .i64 0,.int .i64 (J3 el dr),.int .i64 0,.slice b2 l.length c2,.slice none 0 0,.slice none 0 0,.slice none 0 0,.slice none 0 0,.slice none 0 0]) (Y9 Tryz.results63 rfl p1 Tryz.underlying36 rfl Z0y rfl) rfl ⟨b2,c2,rfl,ho2.le (by omega),hB⟩
structure Nd where
 id:Int
 sz:Int
 el:Int
 bt:Int
 tm:Int
 vo:Int
 ro:Int
 ld:Int
 cm:Int
 nw:Int
 dl:Int
 hd:Int
 log:List Ent
 gr:List Int
 nx:List Int
 mt:List Int
 se:List Int
 st:List Int
structure Mg where
 ki:Int
 fr:Int
 td:Int
 tm:Int
 li:Int
 lt:Int
 cm:Int
 ok:Int
 hi:Int
 es:List Ent
structure Rn where
 n:Nd
 out:List Mg
 code:Int
 drew:Int
 draw:Int
def mg0:Mg:=⟨0,0,0,0,0,0,0,0,0,[]⟩
def Rn.timer (r:Rn):Rn:={ r with n:={ r.n with dl:=r.n.nw+J3 r.n.el r.draw },drew:=1 }
def Jw (l:List Ent)(p:Nat):Int:=if p=0 then 0 else (l[p-1]?.map (·.t)).getD 0
def Z0o (l:List Ent):Int:=Jw l l.length
def utd (l:List Ent)(m:Mg):Bool:=decide (Z0o l<m.lt) || (decide (m.lt=Z0o l) && decide ((l.length:Int)<=m.li))
def loyB (n:Nd):Bool:=n.ro == 3 || (n.ld != 0 && decide (n.nw-n.hd<n.el))
def Rn.lone (r:Rn):Rn:={ r with n:={ r.n with nx:=[],mt:=[],se:=[],st:=[],gr:=[],ld:=0,ro:=0 } }
def Rn.adopt (r:Rn)(t:Int):Rn:=
 if r.n.ro=3 then Rn.timer { r.lone with n:={ r.lone.n with tm:=t,vo:=0 } } else { r.lone with n:={ r.lone.n with tm:=t,vo:=0 } }
def Rn.send (r:Rn)(m:Mg):Rn:={ r with out:=r.out ++ [{ m with fr:=r.n.id }] }
def Rn.allK (m:Mg):Nat->Rn->Rn
 | 0,r=>r
 | k+1,r=>if (k:Int)+1=r.n.id then Rn.allK m k r else (Rn.allK m k r).send { m with td:=(k:Int)+1 }
def entMsg (n:Nd)(j:Nat):Mg:=
 ⟨5,0,(j:Int)+1,n.tm,n.nx.getD j 0-1,Jw n.log (n.nx.getD j 0-1).toNat,n.cm,0,0,(n.log.drop (n.nx.getD j 0-1).toNat).take 32⟩
def Rn.sendE (r:Rn)(j:Nat):Rn:={ r.send (entMsg r.n j) with n:={ r.n with st:=r.n.st.set j r.n.nw } }
def Rn.sendK:Nat->Rn->Rn
 | 0,r=>r
 | k+1,r=>if (k:Int)+1=r.n.id then Rn.sendK k r else (Rn.sendK k r).sendE k
def Rn.sendAll (r:Rn):Rn:=r.sendK r.n.sz.toNat
def heardK (n:Nd):Nat->Nat
 | 0=>0
 | k+1=>heardK n k+if (k:Int)+1≠n.id/\n.nw-n.se.getD k 0<n.el then 1 else 0
def Rn.beatK:Nat->Rn->Rn
 | 0,r=>r
 | k+1,r=>if (k:Int)+1≠r.n.id/\r.n.bt<=r.n.nw-(Rn.beatK k r).n.st.getD k 0 then (Rn.beatK k r).sendE k else Rn.beatK k r
def majP (k:Int)(sz:Int):Bool:=decide (sz<2*k)
def Rn.tick (r0:Rn):Rn:=
 if r0.n.nw=1099511627776 then { r0 with code:=7 }
 else
  let r:Rn:={ r0 with n:={ r0.n with nw:=r0.n.nw+1 } }
  if r.n.ro=3 then
   (if majP (1+(heardK r.n r.n.sz.toNat:Int)) r.n.sz=true then r.beatK r.n.sz.toNat else r.lone.timer)
  else if r.n.nw<r.n.dl then r
  else if r.n.tm=1073741824 then r.lone.timer
  else Rn.allK ⟨1,0,0,r.n.tm+1,r.n.log.length,Z0o r.n.log,0,0,0,[]⟩ r.n.sz.toNat { r.lone.timer with n:={ r.lone.timer.n with ro:=1,gr:=[r.n.id] } }
def grantK (gr:List Int)(fr:Int):Nat->List Int
 | 0=>[]
 | k+1=>grantK gr fr k ++ if (k:Int)+1=fr∨(k:Int)+1∈gr then [(k:Int)+1] else []
def Rn.preAsk (r:Rn)(m:Mg):Rn:=
 if loyB r.n=true then { r with code:=2 }
 else if r.n.tm<m.tm/\utd r.n.log m=true then r.send ⟨2,0,m.fr,m.tm,0,0,0,1,0,[]⟩
 else r.send ⟨2,0,m.fr,r.n.tm,0,0,0,0,0,[]⟩
def Rn.higher (r:Rn)(t:Int):Rn:=if r.n.tm<t then r.adopt t else r
def Rn.voteAsk (r0:Rn)(m:Mg):Rn:=
 if loyB r0.n=true then { r0 with code:=2 }
 else
  let r:=r0.higher m.tm
  if m.tm=r.n.tm/\(r.n.vo=0∨r.n.vo=m.fr)/\utd r.n.log m=true then Rn.send (Rn.timer { r.lone with n:={ r.lone.n with vo:=m.fr } }) ⟨4,0,m.fr,r.n.tm,0,0,0,1,0,[]⟩
  else r.send ⟨4,0,m.fr,r.n.tm,0,0,0,0,0,[]⟩
def Rn.stale (r:Rn):Rn:={ r with code:=3 }
def Rn.takeTerm (r:Rn)(t:Int):Rn:=if r.n.tm<t then r.adopt t else r.stale
def Rn.preReply (r:Rn)(m:Mg):Rn:=
 if m.ok=0 then r.takeTerm m.tm
 else if r.n.ro≠1∨m.tm≠r.n.tm+1∨m.fr∈r.n.gr then r.stale
 else
  let g:=grantK r.n.gr m.fr r.n.sz.toNat
  if majP g.length r.n.sz=true then
   let r2:Rn:=Rn.timer { r with n:={ r.n with tm:=r.n.tm+1,vo:=r.n.id,ro:=2,gr:=[r.n.id] } }
   Rn.allK ⟨3,0,0,r.n.tm+1,r.n.log.length,Z0o r.n.log,0,0,0,[]⟩ r.n.sz.toNat r2
  else { r with n:={ r.n with gr:=g } }
def leadL (id:Int)(k:Nat)(x:Int):List Int:=(List.range k).map fun (i:Nat)=>if (i:Int)+1=id then 0 else x
def Rn.lead (r:Rn):Rn:=
 let s:=r.n.sz.toNat
 let n2:Nd:={ r.lone.n with ro:=3,ld:=r.n.id,nx:=leadL r.n.id s ((r.n.log.length:Int)+1),mt:=leadL r.n.id s 0,se:=leadL r.n.id s r.n.nw,st:=leadL r.n.id s r.n.nw,log:=if r.n.log.length<4096 then r.n.log ++ [⟨r.n.tm,0,0,0,⟨#[]⟩,⟨#[]⟩,⟨#[]⟩⟩] else r.n.log }
 Rn.sendAll { r with n:=n2 }
def Rn.voteReply (r:Rn)(m:Mg):Rn:=
 if r.n.tm<m.tm then r.adopt m.tm
 else if r.n.ro≠2∨m.tm≠r.n.tm∨m.ok≠1∨m.fr∈r.n.gr then r.stale
 else
  let g:=grantK r.n.gr m.fr r.n.sz.toNat
  if majP g.length r.n.sz=true then r.lead else { r with n:={ r.n with gr:=g } }
def partsP (log:List Ent)(p:Nat):List Ent->Nat
 | []=>0
 | e :: es=>if (log[p]?.map (·.t))=some e.t then partsP log (p+1) es+1 else 0
def Rn.append (r0:Rn)(m:Mg):Rn:=
 if m.tm<r0.n.tm then r0.send ⟨6,0,m.fr,r0.n.tm,m.li,0,0,0,0,[]⟩
 else
  let r1:=r0.higher m.tm
  if r1.n.ro=3 then r1.stale
  else
   let r:Rn:=Rn.timer { r1.lone with n:={ r1.lone.n with ld:=m.fr,hd:=r1.n.nw } }
   if r.n.log.length<m.li.toNat∨(0<m.li/\Jw r.n.log m.li.toNat≠m.lt) then r.send ⟨6,0,m.fr,r.n.tm,m.li,0,0,0,min (r.n.log.length:Int) (m.li-1),[]⟩
   else
    let i:=partsP r.n.log m.li.toNat m.es
    if i<m.es.length/\m.li+i+1<=r.n.cm then r.stale
    else
     let log:=if i<m.es.length then r.n.log.take (m.li.toNat+i) ++ m.es.drop i else r.n.log
     Rn.send { r with n:={ r.n with log:=log,cm:=max r.n.cm (min m.cm (m.li+m.es.length)) } } ⟨6,0,m.fr,r.n.tm,m.li+m.es.length,0,0,1,0,[]⟩
def holdK (n:Nd)(p:Int):Nat->Nat
 | 0=>0
 | k+1=>holdK n p k+if (k:Int)+1≠n.id/\p<=n.mt.getD k 0 then 1 else 0
def agreedP (n:Nd)(p:Nat):Bool:=majP (1+(holdK n p n.sz.toNat:Int)) n.sz && decide (Jw n.log p=n.tm)
def commitP (n:Nd)(lo:Nat):Nat->Nat
 | 0=>lo
 | k+1=>if k+1<=lo then lo else if agreedP n (k+1)=true then k+1 else commitP n lo k
def Rn.appReply (r:Rn)(m:Mg):Rn:=
 if r.n.tm<m.tm then r.adopt m.tm
 else if r.n.ro≠3∨m.tm<r.n.tm then r.stale
 else
  let f:=(m.fr-1).toNat
  let r1:Rn:={ r with n:={ r.n with se:=r.n.se.set f r.n.nw } }
  if m.ok=0 then
   (if m.li≠r.n.nx.getD f 0-1 then r1.stale
    else Rn.sendE { r1 with n:={ r1.n with nx:=r1.n.nx.set f (max (r.n.mt.getD f 0+1) (min m.hi (m.li-1)+1)) } } f)
  else if (r.n.log.length:Int)<m.li then r1.stale
  else
   let mt:=max (r.n.mt.getD f 0) m.li
   let nx:=max (r.n.nx.getD f 0) (mt+1)
   let n2:Nd:={ r1.n with mt:=r1.n.mt.set f mt,nx:=r1.n.nx.set f nx }
   let r3:Rn:={ r1 with n:={ n2 with cm:=(commitP n2 n2.cm.toNat n2.log.length:Int) } }
   if nx<=r.n.log.length then r3.sendE f else r3
def Rn.message (r:Rn)(bad:Bool)(m:Mg):Rn:=
 if bad=true∨m.td≠r.n.id∨r.n.sz<m.fr then { r with code:=1 }
 else if m.ki=1 then r.preAsk m
 else if m.ki=2 then r.preReply m
 else if m.ki=3 then r.voteAsk m
 else if m.ki=4 then r.voteReply m
 else if m.ki=5 then r.append m
 else r.appReply m
def Rn.propose (r:Rn)(bad:Bool)(cl sq op:Int)(k v o:ByteArray):Rn:=
 if bad=true then { r with code:=6 }
 else if r.n.ro≠3 then { r with code:=4 }
 else if 4096<=r.n.log.length then { r with code:=5 }
 else Rn.sendAll { r with n:={ r.n with log:=r.n.log ++ [⟨r.n.tm,cl,sq,op,k,v,o⟩] } }
def Sl {α:Type}(cs:α->List Value)(m:Nat)(w:World)(v:Value)(l:List α):Prop:=
 l.length<=maxLen/\∃ a cap,v=.slice a l.length cap/\∀ i,i<l.length->∃ b off,a=some ⟨b,off,none⟩/\∀ j (h:j<l.length),w.rangeAt b (off+j*m) (cs l[j])
theorem range_new' (w:World)(cs:List Value)(t:TypeId):(w.alloc (.cells cs.toArray t)).rangeAt w.heap.size 0 cs:=by
 intro j v hj;rw [Nat.zero_add,World.cell?_alloc_new];simpa using hj
theorem row_le {j k n m:Nat}(h:j<k)(hk:k<=n):j*m+m<=n*m:=by
 have:=Nat.mul_le_mul_right m (show j+1<=n by omega)
 rwa [Nat.succ_mul] at this
def gC {α:Type}(cs:α->List Value):List α->List Value
 | []=>[]
 | e :: l=>cs e ++ gC cs l
theorem gC_app {α:Type}(cs:α->List Value)(l k:List α):gC cs (l ++ k)=gC cs l ++ gC cs k:=by
 induction l with
 | nil=>rfl
 | cons e l ih=>rw [List.cons_append,gC,ih,gC,List.append_assoc]
theorem gC_get {α:Type}{cs:α->List Value}{m:Nat}(hm:∀ a,(cs a).length=m)(l:List α):∀(j:Nat) (h:j<l.length) (i:Nat),i<m->(gC cs l)[j*m+i]? = (cs l[j])[i]?:=by
 induction l with
 | nil=>intro j h;simp at h
 | cons e l ih=>
  intro j h i hi
  cases j with
  | zero=>rw [gC,List.getElem?_append_left (by rw [hm];omega)];simp
  | succ j=>
   rw [gC,List.getElem?_append_right (by rw [hm,Nat.succ_mul];omega),hm,show (j+1)*m+i-m=j*m+i by rw [Nat.succ_mul];omega,ih j (by simpa using h) i hi];simp
structure GLaw {α:Type} (cs:α->List Value) (m:Nat) (T S:TypeId):Prop where
 und:Tryz.prog.underlying S=some (.slice T)
 info:∃ i z bytes,Tryz.prog.info? T=some i/\i.zero=some z/\i.size=m/\i.bytes=bytes/\z.cells.size=m/\bytes<=128
 pos:0<m
 len:∀ a,(cs a).length=m
 one:∀ a,∀ u∈cs a,u.oneCell'=true
def Zs {α:Type}(cs:α->List Value)(m:Nat)(T:TypeId)(w:World)(B:Nat)(v:Value)(l:List α):Prop:=w.ownsRow B T m v l.length (gC cs l)
section
variable {α:Type} {cs:α->List Value} {m:Nat} {T S:TypeId} {w w':World} {B:Nat} {v:Value} {l:List α}
theorem Zs.nil (cs:α->List Value)(m:Nat)(T:TypeId)(w:World)(B:Nat):Zs cs m T w B (.slice none 0 0) []:=World.ownsRow_nil w B _ m
theorem Zs.shape (h:Zs cs m T w B v l):∃ a cap,v=.slice a l.length cap:=by
 rcases h.2 with ⟨rfl,h0⟩ | ⟨g,cap,cur,rfl,_⟩
 ·exact ⟨none,0,by rw [h0]⟩
 ·exact ⟨_,_,rfl⟩
theorem Zs.shape' (h:Zs cs m T w B v l)(hl:0<l.length):∃ g cap,v=.slice (some ⟨g,0,none⟩) l.length cap:=by
 rcases h.2 with ⟨rfl,h0⟩ | ⟨g,cap,cur,rfl,_⟩
 ·omega
 ·exact ⟨_,_,rfl⟩
theorem Zs.lts (h:Zs cs m T w B v l)(k:Nat)(e:v.ownBlock=some k):B<=k/\k<w.heap.size:=World.ownsRow.lt h k e
theorem Zs.le {B':Nat}(h:Zs cs m T w B v l)(hb:B'<=B):Zs cs m T w B' v l:=by
 refine ⟨h.1,?_⟩;rcases h.2 with h | ⟨g,cap,cur,hv,hg,r⟩
 ·exact .inl h
 ·exact .inr ⟨g,cap,cur,hv,Nat.le_trans hb hg,r⟩
theorem Zs.block (h:Zs cs m T w B v l)(hb:∀ k,v.ownBlock=some k->w'.heap[k]? = w.heap[k]?):Zs cs m T w' B v l:=by
 refine ⟨h.1,?_⟩;rcases h.2 with h | ⟨g,cap,cur,hv,hg,hh,r⟩
 ·exact .inl h
 ·exact .inr ⟨g,cap,cur,hv,hg,(hb g (by rw [hv];rfl)).trans hh,r⟩
theorem Zs.below (h:Zs cs m T w B v l)(hb:Below w.heap.size w w'):Zs cs m T w' B v l:=h.block fun k hk=>hb.block k (h.lts k hk).2
theorem Zs.sl (L:GLaw cs m T S)(h:Zs cs m T w B v l)(hl:l.length<=maxLen):Sl cs m w v l:=by
 obtain ⟨a,cap,rfl⟩:=h.shape;refine ⟨hl,a,cap,rfl,fun i hi=>?_⟩;obtain ⟨g,cap',e⟩:=h.shape' (by omega);simp only [Value.slice.injEq] at e;obtain ⟨rfl,_,rfl⟩:=e;refine ⟨g,0,rfl,fun j hj t v ht=>?_⟩;have htm:t<m:=by have:=(List.getElem?_eq_some_iff.1 ht).1;rwa [L.len] at this
 have hle:=row_le (m:=m) hj (Nat.le_refl _);rw [Nat.zero_add,World.ownsRow.cellAt h (j*m+t) (by omega),gC_get L.len l j hj t htm];exact ht
theorem growG {v':Value}(h:Xe w v w' v')(hown:Zs cs m T w B v l)(hB:B<=w.heap.size):Below B w w':=
 (Below.refl _ _).grown h.g hB (fun k hk=>(hown.lts k hk).1)
theorem J8 (L:GLaw cs m T S){ops:Array Oper}{rest:List Oper}{o:Oper}{a:Act}{Q:Exit->Act->World->Prop}(hgd:o.guard=none)(s x:Operand)
  (ho:o.op=.call { callee:=.builtin .append,args:=#[s,x],argTypes:=#[S,S] })
  (e:α) (hown:Zs cs m T w B v l) (hs:a.eval s=v) (b c:Nat) (hu:w.rangeAt b 0 (cs e)) (hx:a.eval x=.slice (some ⟨b,0,none⟩) 1 c) (hlen:l.length<=1000000) (hB:B<=w.heap.size)
  (h:∀ v' w',Zs cs m T w' B v' (l ++ [e])->Xe w v w' v'->wpList Tryz.prog ops Q rest (a.put o.dst v') w'):wpList Tryz.prog ops Q (o :: rest) a w:=by
 obtain ⟨i0,z,bytes,hi,hz0,hz1,hz2,hz3,hb⟩:=L.info;have hmul:(l.length+1)*bytes<=1000001*128:=Nat.mul_le_mul (by omega) hb;refine wpList_append_own_at w hgd s x S ho B T i0 z m bytes L.und hi hz0 hz1 hz2 hz3 L.pos v l.length _ hs hown ⟨b,0,none⟩ 1 c (cs e) hx (by rw [L.len];omega) ?_ (L.one e) (by unfold maxLen;omega) (by omega) hB ?_
 ·intro j u hj
  rw [Z1d,Nat.zero_add];have:=hu j u hj
  rwa [Nat.zero_add] at this
 ·intro v' w' h2 h3 _ h5
  exact h v' w' (by unfold Zs;rw [gC_app];simpa [gC] using h2) ⟨h3,h5.imp id fun e=>⟨_,e,Nat.le_refl _⟩⟩
theorem stp_appendG (L:GLaw cs m T S){ops:Array Oper}{o:Oper}{a:Act}{K:Act->World->Prop}{Q:Exit->Act->World->Prop}{E:Prop}(hgd:o.guard=none)(s x:Operand)
  (ho:o.op=.call { callee:=.builtin .append,args:=#[s,x],argTypes:=#[S,S] })
  (e:α) (hown:Zs cs m T w B v l) (hs:a.eval s=v) (b c:Nat) (hu:w.rangeAt b 0 (cs e)) (hx:a.eval x=.slice (some ⟨b,0,none⟩) 1 c) (hlen:l.length<=1000000) (hB:B<=w.heap.size)
  (h:∀ v' w',Zs cs m T w' B v' (l ++ [e])->Xe w v w' v'->K (a.put o.dst v') w'):if Region.wanted o (yielded ops a.tmps)=true then Oper.wp Tryz.prog o a w K Q else E:=by
 have hw:Region.wanted o (yielded ops a.tmps)=true:=by simp [Region.wanted,hgd]
 rw [if_pos hw];obtain ⟨i0,z,bytes,hi,hz0,hz1,hz2,hz3,hb⟩:=L.info;have hmul:(l.length+1)*bytes<=1000001*128:=Nat.mul_le_mul (by omega) hb
 obtain ⟨v',w',hr,h2,h3,h4,h5⟩:=run_append_own_at (P:=Tryz.prog) w B S o.type T i0 z m bytes L.und hi hz0 hz1 hz2 hz3 L.pos v l.length _ hown ⟨b,0,none⟩ 1 c (cs e) (by rw [L.len];omega)
  (by
   intro j u hj;rw [Z1d,Nat.zero_add];have:=hu j u hj
   rwa [Nat.zero_add] at this) (L.one e) (by unfold maxLen;omega) (by omega) hB
 unfold Oper.wp execOp;simp only [ho,resolve,invoke,builtin,Sem.run_bind,Sem.run_pure,Result.andThen_ok,List.map_toArray,List.map_cons,List.map_nil,hs,hx,hr];exact h v' w' (by unfold Zs;rw [gC_app];simpa [gC] using h2) ⟨h3,h5.imp id fun e=>⟨_,e,Nat.le_refl _⟩⟩
end
def Ix (w:World)(v:Value)(l:List Int):Prop:=
 l.length<=maxLen/\∃ a cap,v=.slice a l.length cap/\∀ i,i<l.length->∃ b off,a=some ⟨b,off,none⟩/\∀ j (h:j<l.length),w.cell? ⟨b,off+j,none⟩=some (.int .i64 l[j])
theorem Ix.below {w w':World}{v:Value}{l:List Int}(h:Ix w v l)(hb:Below w.heap.size w w'):Ix w' v l:=by
 obtain ⟨hl,a,cap,rfl,hc⟩:=h;refine ⟨hl,a,cap,rfl,fun i hi=>?_⟩;obtain ⟨b,off,rfl,hj⟩:=hc i hi;exact ⟨b,off,rfl,fun j hj'=>(hb.cell (p:=⟨b,off+j,none⟩) (Xb (hj j hj'))).trans (hj j hj')⟩
def inC (n:Int):List Value:=[.int .i64 n]
theorem Jh:GLaw inC 1 3 23:={
 und:=Tryz.underlying23
 info:=by
  obtain ⟨i0,hi,hz0,hz1,hz2⟩:=info_parts (show (Tryz.prog.info? 3).map (fun i=>(i.zero,i.size,i.bytes))=some (some (.int .i64 0),1,8) by kernel_rfl);exact ⟨i0,_,_,hi,hz0,hz1,hz2,rfl,by decide⟩
 pos:=by decide
 len:=fun _=>rfl
 one:=fun a u hu=>by
  simp only [inC,List.mem_cons,List.not_mem_nil,or_false] at hu;subst hu;rfl }
theorem Z0h {w:World}{v:Value}{l:List Int}(h:Sl inC 1 w v l):Ix w v l:=by
 obtain ⟨hl,a,cap,rfl,hc⟩:=h;refine ⟨hl,a,cap,rfl,fun i hi=>?_⟩;obtain ⟨b,off,rfl,hj⟩:=hc i hi;refine ⟨b,off,rfl,fun j hj'=>?_⟩;have:=hj j hj' 0 _ rfl;simpa using this
structure Om where
 m:Mg
 a:Option Addr
 c:Nat
def Om.v (x:Om):Value:=.slice x.a x.m.es.length x.c
def omC (x:Om):List Value:=[.int .i64 x.m.ki,.int .i64 x.m.fr,.int .i64 x.m.td,.int .i64 x.m.tm,.int .i64 x.m.li,.int .i64 x.m.lt,.int .i64 x.m.cm,.int .i64 x.m.ok,.int .i64 x.m.hi,.slice x.a x.m.es.length x.c]
theorem omLaw:GLaw omC 10 43 37:={
 und:=Tryz.underlying37
 info:=by
  obtain ⟨i0,hi,hz0,hz1,hz2⟩:=info_parts (show (Tryz.prog.info? 43).map (fun i=>(i.zero,i.size,i.bytes))=some (some (.agg #[.int .i64 0,.int .i64 0,.int .i64 0,.int .i64 0,.int .i64 0,.int .i64 0,.int .i64 0,.int .i64 0,.int .i64 0,.slice none 0 0]),10,96) by kernel_rfl);exact ⟨i0,_,_,hi,hz0,hz1,hz2,rfl,by decide⟩
 pos:=by decide
 len:=fun _=>rfl
 one:=fun a u hu=>by
  simp only [omC,List.mem_cons,List.not_mem_nil,or_false] at hu;rcases hu with rfl | rfl | rfl | rfl | rfl | rfl | rfl | rfl | rfl | rfl <;> rfl }
structure RV where
 vl:Value
 vg:Value
 vn:Value
 vm:Value
 vs:Value
 vt:Value
 vo:Value
 L:List Om
def Xq (u v:Value):Prop:=∀ k,u.ownBlock=some k->v.ownBlock≠some k
theorem Xq.symm {u v:Value}(h:Xq u v):Xq v u:=fun k h1 h2=>h k h2 h1
theorem Yr {α:Type}{cs:α->List Value}{m:Nat}{T:TypeId}{w:World}{B:Nat}{v:Value}{l:List α}{b:Nat}{C:Array Value}{t:TypeId}(h:Zs cs m T w B v l)(hb:Blk w b C t)(hne:T≠t):∀ k,v.ownBlock=some k->k≠b:=by
 intro k e ek;obtain ⟨-,⟨rfl,-⟩ | ⟨g,cap,cur,rfl,-,hb',-⟩⟩:=h
 ·cases e
 cases e;subst ek;unfold Blk at hb;rw [hb] at hb';simp only [Option.some.injEq,Obj.cells.injEq] at hb';exact hne hb'.2.1.symm
theorem X4 {w:World}{B:Nat}{v:Value}{l:List Ent}{b:Nat}{C:Array Value}{t:TypeId}(h:Zv w B v l)(hb:Blk w b C t)(hne:118≠t):∀ k,v.ownBlock=some k->k≠b:=by
 intro k e ek;obtain ⟨-,-,⟨rfl,-⟩ | ⟨g,cap,cur,rfl,-,hb',-⟩⟩:=h
 ·cases e
 cases e;subst ek;unfold Blk at hb;rw [hb] at hb';simp only [Option.some.injEq,Obj.cells.injEq] at hb';exact hne hb'.2.1.symm
section
variable {w w':World} {B b:Nat} {r:Rn} {x:RV}
end
def setL (xs:List Value):Nat->List Value->List Value
 | _,[]=>xs
 | o,v :: vs=>setL (xs.set o v) (o+1) vs
theorem setL_app (a:List Value):∀(vs xs:List Value) (o:Nat),setL (a ++ xs) (a.length+o) vs=a ++ setL xs o vs
 | [],_,_=>rfl
 | v :: vs,xs,o=>by
  rw [setL,setL,List.set_append,if_neg (by omega),show a.length+o-a.length=o by omega];exact setL_app a vs (xs.set o v) (o+1)
theorem Z1u {base e size g n cap:Nat} : ∀(vs:List Value) (w:World) (xs:List Value) (o:Nat),w.ownsRow base e size (.slice (some ⟨g,0,none⟩) n cap) n xs->(w.setCells g o vs).ownsRow base e size (.slice (some ⟨g,0,none⟩) n cap) n (setL xs o vs)
 | [],_,_,_,h=>h
 | v :: vs,w,xs,o,h=>Z1u vs (w.setCell ⟨g,o,none⟩ v) (xs.set o v) (o+1) (h.stored o v).1
def hasB (x:Int)(l:List Int):Bool:=l.contains x
theorem Z2e {x:Int}{l:List Int}{k:Nat}(h:x ∉ l.take k)(hlt:k<l.length)(hne:¬ x=l[k]):x ∉ l.take (k+1):=by
 intro hm;rw [List.take_succ_eq_append_getElem hlt] at hm;rcases List.mem_append.1 hm with h1 | h1
 ·exact h h1
 ·exact hne (List.mem_singleton.1 h1)
theorem indexI_any (v:Value)(l:List Int)(x:Int)(w:World)(hv:Ix w v l) :
  Calls Tryz.prog 145 #[v,.int .i64 x] w fun e w'=>∃ r:Int,e=.returned (.int .i64 r)/\decide (0<=r)=hasB x l/\w'=w:=by
 obtain ⟨hl,a,cap,rfl,hc⟩:=hv;unfold maxLen at hl;go_enter Tryz.func145,Tryz.ntmps145;go_wp2;go_loop [8] (fun i=>∃(k:Nat),k<=l.length/\i=.int .i64 k/\x ∉ l.take k) (fun i=>l.length-(intOf i).toNat)
 case atStart=>exact ⟨0,Nat.zero_le _,rfl,by simp⟩
 case round=>
  obtain ⟨k,hk,rfl,hx⟩:=hrel;by_cases hlt:k<l.length
  ·obtain ⟨b,off,rfl,hj⟩:=hc k hlt
   have hck:=hj k hlt;clear hc hj;by_cases hy:x=l[k]
   ·have ny:(x == l[k])=true:=by simpa using hy
    have hm:Hid (hasB x l=true):=(by simp [hasB,hy]:hasB x l=true);clear hy;generalize l[k]=y at hck ny;go_wp2;go_ret;exact ⟨_,rfl,by rw [hm.out];simp,rfl⟩
   ·have ny:(x == l[k])=false:=by simpa using hy
    have hx2:=Z2e hx hlt hy;clear hy hx;generalize l[k]=y at hck ny;go_wp2;go_round
    case rel=>exact ⟨k+1,by omega,by go_num,hx2⟩
    case measure=>simp [intOf];omega
  ·go_wp2
   go_ret;exact ⟨_,rfl,by rw [List.take_of_length_le (by omega)] at hx;simp [hasB,hx],rfl⟩
theorem Z00 (v:Value)(l:List Int)(x:Int)(w:World)(hv:Ix w v l) :
  Calls Tryz.prog 111 #[v,.int .i64 x] w fun e w'=>e=.returned (.bool (hasB x l))/\w'=w:=by
 have HV:Hid (Ix w v l):=hv;obtain ⟨_,a,cap,rfl,_⟩:=hv;go_enter Tryz.func111,Tryz.ntmps111
 go_wp2_with (go_at_call 145;refine (indexI_any _ l x _ HV.out).mono ?_;rintro e w1 ⟨r,rfl,hr,hw⟩;obtain rfl:=hw.symm;clear hw)
 all_goals go_ret
 all_goals exact ⟨by rw [<-hr];rfl,rfl⟩
theorem Z1l (v:Value)(l:List Int)(x:Int)(w:World)(hv:Ix w v l) :
  Calls Tryz.prog 99 #[v,.int .i64 x] w fun e w'=>e=.returned (.bool (hasB x l))/\w'=w:=by
 obtain ⟨hl,a,cap,rfl,hc⟩:=hv;unfold maxLen at hl;go_enter Tryz.func99,Tryz.ntmps99;go_wp2;go_loop [5] (fun i=>∃(k:Nat),k<=l.length/\i=.int .i64 k/\x ∉ l.take k) (fun i=>l.length-(intOf i).toNat)
 case atStart=>exact ⟨0,Nat.zero_le _,rfl,by simp⟩
 case round=>
  obtain ⟨k,hk,rfl,hx⟩:=hrel;by_cases hlt:k<l.length
  ·obtain ⟨b,off,rfl,hj⟩:=hc k hlt
   have hck:=hj k hlt;clear hc hj;by_cases hy:x=l[k]
   ·have ny:(l[k] == x)=true:=by simp [hy]
    have hm:Hid (hasB x l=true):=(by simp [hasB,hy]:hasB x l=true);clear hy;generalize l[k]=y at hck ny;go_wp2;go_ret;exact ⟨by rw [hm.out];rfl,rfl⟩
   ·have ny:(l[k] == x)=false:=by simpa using fun h:l[k]=x=>hy h.symm
    have hx2:=Z2e hx hlt hy;clear hy hx;generalize l[k]=y at hck ny;go_wp2;go_round
    case rel=>exact ⟨k+1,by omega,by go_num,hx2⟩
    case measure=>simp [intOf];omega
  ·go_wp2
   go_ret;exact ⟨by rw [List.take_of_length_le (by omega)] at hx;simp [hasB,hx],rfl⟩
def majB (n sz:Int):Bool:=decide (sz / 2<n)
theorem Z1a (n sz:Int)(hs:0<=sz)(hs7:sz<=7)(w:World):Calls Tryz.prog 112 #[.int .i64 n,.int .i64 sz] w fun e w'=>e=.returned (.bool (majB n sz))/\w'=w:=by
 go_enter Tryz.func112,Tryz.ntmps112;go_wp2
 all_goals go_ret
 all_goals exact ⟨rfl,rfl⟩
theorem Z16 (n sz:Int)(hs:sz%2=1)(h0:0<=n)(h1:n<=1099511627776)(w:World):Calls Tryz.prog 100 #[.int .i64 n,.int .i64 sz] w fun e w'=>e=.returned (.bool (majB n sz))/\w'=w:=by
 go_enter Tryz.func100,Tryz.ntmps100;go_wp2
 all_goals go_ret
 all_goals refine ⟨?_,rfl⟩
 all_goals
  show Ending.returned (.bool (decide (sz<2*n)))=_;unfold majB;congr 2;apply decide_eq_decide.2;omega
def Yx (most:Int):Int->List Int->Bool
 | _,[]=>true
 | last,x :: l=>inB x (last+1) most && Yx most x l
theorem Z1y (most last:Int)(l:List Int)(k:Nat)(h:k<l.length):Yx most last (l.drop k)=(inB l[k] (last+1) most && Yx most l[k] (l.drop (k+1))):=by
 rw [List.drop_eq_getElem_cons h];rfl
theorem Xl (v:Value)(l:List Int)(most:Int)(w:World)(hv:Ix w v l)(hm:0<=most)(hm':most<=1048576) :
  Calls Tryz.prog 110 #[v,.int .i64 most] w fun e w'=>e=.returned (.bool (Yx most 0 l))/\w'=w:=by
 obtain ⟨hl,a,cap,rfl,hc⟩:=hv;unfold maxLen at hl;go_enter Tryz.func110,Tryz.ntmps110;go_wp2
 go_loopw [5,10] (fun t i wr=>∃(k:Nat) (x:Int),k<=l.length/\i=.int .i64 k/\t=.int .i64 x/\0<=x/\x<=most/\Yx most 0 l=Yx most x (l.drop k)/\wr=w) (fun _ i _=>l.length-(intOf i).toNat)
 case atStart=>exact ⟨0,0,Nat.zero_le _,rfl,rfl,by omega,by omega,by simp,rfl⟩
 case round=>
  obtain ⟨k,x,hk,rfl,rfl,hx,hx',hr,hwr⟩:=hrel;obtain rfl:=hwr.symm;have HR:Hid (Yx most 0 l=Yx most x (l.drop k)):=hr;clear hr hwr;by_cases hlt:k<l.length
  ·obtain ⟨b,off,rfl,hj⟩:=hc k hlt
   have hck:=hj k hlt;have HD:Hid (Yx most x (l.drop k)=(inB l[k] (x+1) most && Yx most l[k] (l.drop (k+1)))):=Z1y most x l k hlt;clear hc hj;generalize l[k]=y at *;cases hy:inB y (x+1) most
   ·rw [hy] at HD
    go_wp2_with (go_at_call 70;refine (Ze _ _ _ _).mono ?_;rintro e w1 ⟨rfl,hw⟩;obtain rfl:=hw.symm;rw [hy])
    go_ret;exact ⟨by rw [HR.out,HD.out];rfl,rfl⟩
   ·rw [hy] at HD
    have hyi:=(Zr _ _ _).1 hy
    go_wp2_with (go_at_call 70;refine (Ze _ _ _ _).mono ?_;rintro e w1 ⟨rfl,hw⟩;obtain rfl:=hw.symm;rw [hy])
    go_roundw
    case rel=>exact ⟨k+1,y,by omega,by go_num,rfl,by omega,by omega,by rw [HR.out,HD.out];rfl,trivial⟩
    case measure=>simp [intOf];omega
  ·have hd:l.drop k = []:=List.drop_of_length_le (by omega)
   go_wp2;go_ret;exact ⟨by rw [HR.out,hd];rfl,rfl⟩
section
variable {P:Program} {ops:Array Oper} {oz:Oper} {C:World->Prop}
end
end Go.Proofs.YtmmpoppgabadmaaGreat
