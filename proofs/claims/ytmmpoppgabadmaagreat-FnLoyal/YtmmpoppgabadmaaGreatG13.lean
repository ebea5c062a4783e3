import Derived.Test.YtmmpoppgabadmaaGreatG12
set_option linter.unusedVariables false
set_option linter.unusedSimpArgs false
set_option maxRecDepth 100000
set_option maxHeartbeats 16000000
namespace Go.Proofs.YtmmpoppgabadmaaGreat
open Go.RowKit
structure Yb (g b3 b4 b5:Nat) (a:Act):Prop where
 sz:SzD a 343
 e0:a.eval (.tmp 0)=.pointer (some ⟨g,0,none⟩)
 e3:a.eval (.tmp 3)=.pointer (some ⟨b3,0,none⟩)
 e4:a.eval (.tmp 4)=.pointer (some ⟨b4,0,none⟩)
 e5:a.eval (.tmp 5)=.pointer (some ⟨b5,0,none⟩)
structure DfE (w0:World) (g:Nat) (n:Nd) (x:RV):Prop where
 sz:3<=n.sz/\n.sz<=7
 id:1<=n.id/\n.id<=n.sz
 tm:0<=n.tm/\n.tm<=1073741824
 lg:n.log.length<=4096
 vl:∃ a c,x.vl=.slice a n.log.length c
 lq:0<n.log.length->∃ q c,LgQ w0 g x n q c
 lt:∀ e∈n.log,0<=e.t/\e.t<=1073741824
 nx:n.ro=3->∀ j:Nat,(j:Int)<n.sz->j<n.nx.length/\(0<=n.nx.getD j 0/\n.nx.getD j 0<=5000)/\∃ q c,x.vn=.slice (some ⟨q,0,none⟩) n.nx.length c/\q<w0.heap.size/\q≠g/\w0.cell? ⟨q,j,none⟩=some (.int .i64 (n.nx.getD j 0))
def Xp (l:List Int)(n:Nd)(r K:Int)(k:Nat)(ki:Int):Int×Nat:=if n.ro=r then (if Z5 l k 3=0 then ki else K,k+1) else (ki,k)
theorem dfKind_eq (l:List Int)(k:Nat)(n:Nd)(ki:Int):Z38 l k n ki=Xp l n 3 6 (Xp l n 2 4 (Xp l n 1 2 k ki).2 (Xp l n 1 2 k ki).1).2 (Xp l n 2 4 (Xp l n 1 2 k ki).2 (Xp l n 1 2 k ki).1).1:=by
 unfold Z38 Xp;by_cases h1:n.ro=1
 ·simp [h1]
 ·by_cases h2:n.ro=2
  ·simp [h2]
  ·by_cases h3:n.ro=3
   ·simp [h3]
   ·simp [h1,h2,h3]
theorem Z36 (l:List Int)(n:Nd)(r K:Int)(k:Nat)(ki:Int):(Xp l n r K k ki).2<=k+1:=by
 unfold Xp;split <;> simp
def dfT0 (l:List Int)(k:Nat)(n:Nd)(ki:Int):Int×Nat:=
 if Z5 l k 7=0 then (n.tm+1+(Z5 l (k+1) 2:Nat),k+1+1) else if Z5 l k 7=1 then (n.tm-1,k+1) else if ki=1∨ki=2 then (n.tm+1,k+1) else (n.tm,k+1)
theorem dfTerm_eq (l:List Int)(k:Nat)(n:Nd)(ki:Int):dfTerm l k n ki=(min (max (dfT0 l k n ki).1 1) 1073741824,(dfT0 l k n ki).2):=rfl
theorem dfT0_k (l:List Int)(k:Nat)(n:Nd)(ki:Int):(dfT0 l k n ki).2<=k+2:=by
 unfold dfT0;split
 ·simp
 ·split
  ·simp
  ·split <;> simp
theorem dfHead_k (l:List Int)(k:Nat)(n:Nd)(m:Mg):(Z09 l k n m).k<=k+7:=by
 show (dfTerm l (Z38 l (k+1) n m.ki).2 n (Z38 l (k+1) n m.ki).1).2+1<=_;rw [dfTerm_eq,dfKind_eq];have h1:=Z36 l n 1 2 (k+1) m.ki;have h2:=Z36 l n 2 4 (Xp l n 1 2 (k+1) m.ki).2 (Xp l n 1 2 (k+1) m.ki).1;generalize Xp l n 1 2 (k+1) m.ki=A at *;have h3:=Z36 l n 3 6 (Xp l n 2 4 A.2 A.1).2 (Xp l n 2 4 A.2 A.1).1;generalize Xp l n 2 4 A.2 A.1=B at *;have h4:=dfT0_k l (Xp l n 3 6 B.2 B.1).2 n (Xp l n 3 6 B.2 B.1).1;omega
section
variable {w0:World} {g b3 b4 b5:Nat} {v:Value} {l:List Int} {n:Nd} {xr:RV} {m:Mg} {ve:Value} {k:Nat} {Q:Exit->Act->World->Prop} {a:Act} {w:World}
theorem dfA3 (hL:l.length<=1048576)(hk:k<=800000000)(hE:DfE w0 g n xr)(hF:Yb g b3 b4 b5 a)(hS:FS w0 w g v l b3 b4 b5 n xr k m ve)(hP:∀ a' w',Yb g b3 b4 b5 a'->FS w0 w' g v l b3 b4 b5 n xr (k+1) { m with td:=n.id,fr:=Z0j l k n } ve->(Z2 6 (Z3 Tryz.f54)).wp Tryz.prog Q a' w'):(Z2 3 (Z3 Tryz.f54)).wp Tryz.prog Q a w:=by
 rw [show Z2 3 (Z3 Tryz.f54)=.seq (Z1 3 (Z3 Tryz.f54)) (.seq (Z1 4 (Z3 Tryz.f54)) (.seq (Z1 5 (Z3 Tryz.f54)) (Z2 6 (Z3 Tryz.f54)))) from rfl];refine wp_seq_k ?_;intro K1 hK1;refine df4 hF.sz hF.e0 hF.e3 hF.e4 hF.e5 hS fun a1 w1 f1 p1 q1 r1 t1 s1=>hK1 _ _ ?_
 have F1:Yb g b3 b4 b5 a1:=⟨f1,p1,q1,r1,t1⟩;refine wp_seq_k ?_;intro K2 hK2;refine df5 hL (by omega) hE.sz hE.id F1.sz F1.e0 F1.e3 F1.e4 F1.e5 s1 fun a2 w2 f2 p2 q2 r2 t2 s2=>hK2 _ _ ?_
 have F2:Yb g b3 b4 b5 a2:=⟨f2,p2,q2,r2,t2⟩;refine wp_seq_k ?_;intro K3 hK3;rw [show Z1 5 (Z3 Tryz.f54)=.seq (Z1 0 (Z1 5 (Z3 Tryz.f54))) (.cond (.tmp 41) (Zj (Z2 1 (Z1 5 (Z3 Tryz.f54)))) (.skip)) from rfl];refine wp_seq_k ?_;intro K4 hK4;refine df6 F2.sz F2.e0 F2.e3 F2.e4 F2.e5 s2 fun a3 w3 f3 p3 q3 r3 t3 u3 s3=>hK4 _ _ ?_
 have F3:Yb g b3 b4 b5 a3:=⟨f3,p3,q3,r3,t3⟩;refine wp_cond u3 ?_;by_cases h:1+(n.id+(Z5 l k (n.sz.toNat-1):Nat))%n.sz=n.id
 ·rw [if_pos (by simpa using h)]
  rw [show Z0j l k n=1+n.id%n.sz from if_pos h] at hP;refine df7 hE.sz hE.id F3.sz F3.e0 F3.e3 F3.e4 F3.e5 s3 fun a4 w4 f4 p4 q4 r4 t4 s4=>hK3 _ _ ?_
  have F4:Yb g b3 b4 b5 a4:=⟨f4,p4,q4,r4,t4⟩;exact hP _ _ F4 s4
 ·rw [if_neg (by simpa using h)]
  rw [show Z0j l k n=1+(n.id+(Z5 l k (n.sz.toNat-1):Nat))%n.sz from if_neg h] at hP;exact wp_skip (hK3 _ _ (hP _ _ F3 s3))
theorem dfA6 (hL:l.length<=1048576)(hk:k<=800000000)(hF:Yb g b3 b4 b5 a)(hS:FS w0 w g v l b3 b4 b5 n xr k m ve)(hP:∀ a' w',Yb g b3 b4 b5 a'->FS w0 w' g v l b3 b4 b5 n xr (Xp l n 1 2 k m.ki).2 { m with ki:=(Xp l n 1 2 k m.ki).1 } ve->(Z2 7 (Z3 Tryz.f54)).wp Tryz.prog Q a' w'):(Z2 6 (Z3 Tryz.f54)).wp Tryz.prog Q a w:=by
 rw [show Z2 6 (Z3 Tryz.f54)=.seq (Z1 6 (Z3 Tryz.f54)) (Z2 7 (Z3 Tryz.f54)) from rfl];refine wp_seq_k ?_;intro K1 hK1;rw [show Z1 6 (Z3 Tryz.f54)=.seq (Z1 0 (Z1 6 (Z3 Tryz.f54))) (.cond (.tmp 56) (Zj (Z2 1 (Z1 6 (Z3 Tryz.f54)))) (.skip)) from rfl];refine wp_seq_k ?_;intro K2 hK2;by_cases h:n.ro=1
 ·have e:Xp l n 1 2 k m.ki=(if Z5 l k 3=0 then m.ki else 2,k+1):=if_pos h
  rw [e] at hP;refine df8t hL (by omega) h hF.sz hF.e0 hF.e3 hF.e4 hF.e5 hS fun a1 w1 f1 p1 q1 r1 t1 u1 s1=>hK2 _ _ ?_
  have F1:Yb g b3 b4 b5 a1:=⟨f1,p1,q1,r1,t1⟩;refine wp_cond u1 ?_;by_cases h2:Z5 l k 3=0
  ·rw [if_neg (by simp [h2])]
   rw [if_pos h2] at hP;exact wp_skip (hK1 _ _ (hP _ _ F1 s1))
  ·rw [if_pos (by simp [h2])]
   rw [if_neg h2] at hP;refine df9 F1.sz F1.e0 F1.e3 F1.e4 F1.e5 s1 fun a2 w2 f2 p2 q2 r2 t2 s2=>hK1 _ _ ?_
   have F2:Yb g b3 b4 b5 a2:=⟨f2,p2,q2,r2,t2⟩;exact hP _ _ F2 s2
 ·have e:Xp l n 1 2 k m.ki=(m.ki,k):=if_neg h
  rw [e] at hP;refine df8f h hF.sz hF.e0 hF.e3 hF.e4 hF.e5 hS fun a1 w1 f1 p1 q1 r1 t1 u1 s1=>hK2 _ _ ?_
  have F1:Yb g b3 b4 b5 a1:=⟨f1,p1,q1,r1,t1⟩;refine wp_cond u1 ?_;exact wp_skip (hK1 _ _ (hP _ _ F1 s1))
theorem dfA7 (hL:l.length<=1048576)(hk:k<=800000000)(hF:Yb g b3 b4 b5 a)(hS:FS w0 w g v l b3 b4 b5 n xr k m ve)(hP:∀ a' w',Yb g b3 b4 b5 a'->FS w0 w' g v l b3 b4 b5 n xr (Xp l n 2 4 k m.ki).2 { m with ki:=(Xp l n 2 4 k m.ki).1 } ve->(Z2 8 (Z3 Tryz.f54)).wp Tryz.prog Q a' w'):(Z2 7 (Z3 Tryz.f54)).wp Tryz.prog Q a w:=by
 rw [show Z2 7 (Z3 Tryz.f54)=.seq (Z1 7 (Z3 Tryz.f54)) (Z2 8 (Z3 Tryz.f54)) from rfl];refine wp_seq_k ?_;intro K1 hK1;rw [show Z1 7 (Z3 Tryz.f54)=.seq (Z1 0 (Z1 7 (Z3 Tryz.f54))) (.cond (.tmp 65) (Zj (Z2 1 (Z1 7 (Z3 Tryz.f54)))) (.skip)) from rfl];refine wp_seq_k ?_;intro K2 hK2;by_cases h:n.ro=2
 ·have e:Xp l n 2 4 k m.ki=(if Z5 l k 3=0 then m.ki else 4,k+1):=if_pos h
  rw [e] at hP;refine df10t hL (by omega) h hF.sz hF.e0 hF.e3 hF.e4 hF.e5 hS fun a1 w1 f1 p1 q1 r1 t1 u1 s1=>hK2 _ _ ?_
  have F1:Yb g b3 b4 b5 a1:=⟨f1,p1,q1,r1,t1⟩;refine wp_cond u1 ?_;by_cases h2:Z5 l k 3=0
  ·rw [if_neg (by simp [h2])]
   rw [if_pos h2] at hP;exact wp_skip (hK1 _ _ (hP _ _ F1 s1))
  ·rw [if_pos (by simp [h2])]
   rw [if_neg h2] at hP;refine df11 F1.sz F1.e0 F1.e3 F1.e4 F1.e5 s1 fun a2 w2 f2 p2 q2 r2 t2 s2=>hK1 _ _ ?_
   have F2:Yb g b3 b4 b5 a2:=⟨f2,p2,q2,r2,t2⟩;exact hP _ _ F2 s2
 ·have e:Xp l n 2 4 k m.ki=(m.ki,k):=if_neg h
  rw [e] at hP;refine df10f h hF.sz hF.e0 hF.e3 hF.e4 hF.e5 hS fun a1 w1 f1 p1 q1 r1 t1 u1 s1=>hK2 _ _ ?_
  have F1:Yb g b3 b4 b5 a1:=⟨f1,p1,q1,r1,t1⟩;refine wp_cond u1 ?_;exact wp_skip (hK1 _ _ (hP _ _ F1 s1))
theorem dfA8 (hL:l.length<=1048576)(hk:k<=800000000)(hF:Yb g b3 b4 b5 a)(hS:FS w0 w g v l b3 b4 b5 n xr k m ve)(hP:∀ a' w',Yb g b3 b4 b5 a'->FS w0 w' g v l b3 b4 b5 n xr (Xp l n 3 6 k m.ki).2 { m with ki:=(Xp l n 3 6 k m.ki).1 } ve->(Z2 9 (Z3 Tryz.f54)).wp Tryz.prog Q a' w'):(Z2 8 (Z3 Tryz.f54)).wp Tryz.prog Q a w:=by
 rw [show Z2 8 (Z3 Tryz.f54)=.seq (Z1 8 (Z3 Tryz.f54)) (Z2 9 (Z3 Tryz.f54)) from rfl];refine wp_seq_k ?_;intro K1 hK1;rw [show Z1 8 (Z3 Tryz.f54)=.seq (Z1 0 (Z1 8 (Z3 Tryz.f54))) (.cond (.tmp 74) (Zj (Z2 1 (Z1 8 (Z3 Tryz.f54)))) (.skip)) from rfl];refine wp_seq_k ?_;intro K2 hK2;by_cases h:n.ro=3
 ·have e:Xp l n 3 6 k m.ki=(if Z5 l k 3=0 then m.ki else 6,k+1):=if_pos h
  rw [e] at hP;refine df12t hL (by omega) h hF.sz hF.e0 hF.e3 hF.e4 hF.e5 hS fun a1 w1 f1 p1 q1 r1 t1 u1 s1=>hK2 _ _ ?_
  have F1:Yb g b3 b4 b5 a1:=⟨f1,p1,q1,r1,t1⟩;refine wp_cond u1 ?_;by_cases h2:Z5 l k 3=0
  ·rw [if_neg (by simp [h2])]
   rw [if_pos h2] at hP;exact wp_skip (hK1 _ _ (hP _ _ F1 s1))
  ·rw [if_pos (by simp [h2])]
   rw [if_neg h2] at hP;refine df13 F1.sz F1.e0 F1.e3 F1.e4 F1.e5 s1 fun a2 w2 f2 p2 q2 r2 t2 s2=>hK1 _ _ ?_
   have F2:Yb g b3 b4 b5 a2:=⟨f2,p2,q2,r2,t2⟩;exact hP _ _ F2 s2
 ·have e:Xp l n 3 6 k m.ki=(m.ki,k):=if_neg h
  rw [e] at hP;refine df12f h hF.sz hF.e0 hF.e3 hF.e4 hF.e5 hS fun a1 w1 f1 p1 q1 r1 t1 u1 s1=>hK2 _ _ ?_
  have F1:Yb g b3 b4 b5 a1:=⟨f1,p1,q1,r1,t1⟩;refine wp_cond u1 ?_;exact wp_skip (hK1 _ _ (hP _ _ F1 s1))
theorem dfA9 (hL:l.length<=1048576)(hk:k<=800000000)(hE:DfE w0 g n xr)(hF:Yb g b3 b4 b5 a)(hS:FS w0 w g v l b3 b4 b5 n xr k m ve)(hP:∀ a' w',Yb g b3 b4 b5 a'->FS w0 w' g v l b3 b4 b5 n xr (dfT0 l k n m.ki).2 { m with tm:=min (max (dfT0 l k n m.ki).1 1) 1073741824 } ve->(Z2 13 (Z3 Tryz.f54)).wp Tryz.prog Q a' w'):(Z2 9 (Z3 Tryz.f54)).wp Tryz.prog Q a w:=by
 have hpq:=Zf l k 7 (by omega);rw [show Z2 9 (Z3 Tryz.f54)=.seq (Z1 9 (Z3 Tryz.f54)) (.seq (Z1 10 (Z3 Tryz.f54)) (.seq (Z1 11 (Z3 Tryz.f54)) (.seq (Z1 12 (Z3 Tryz.f54)) (Z2 13 (Z3 Tryz.f54))))) from rfl];refine wp_seq_k ?_;intro K1 hK1;refine df14 hL (by omega) hF.sz hF.e0 hF.e3 hF.e4 hF.e5 hS fun a1 w1 f1 p1 q1 r1 t1 u1 s1=>hK1 _ _ ?_
 have F1:Yb g b3 b4 b5 a1:=⟨f1,p1,q1,r1,t1⟩;refine wp_seq_k ?_;intro K2 hK2;refine df15 F1.sz F1.e0 F1.e3 F1.e4 F1.e5 u1 s1 fun a2 w2 f2 p2 q2 r2 t2 u2 v2 s2=>hK2 _ _ ?_
 have F2:Yb g b3 b4 b5 a2:=⟨f2,p2,q2,r2,t2⟩;refine wp_seq_k ?_;intro K3 hK3
 have hrest:∀ a' w' k' t7,Yb g b3 b4 b5 a'->a'.eval (.tmp 7)=.int .i64 t7->FS w0 w' g v l b3 b4 b5 n xr k' m ve->dfT0 l k n m.ki=(t7,k')->K3 a' w':=by
  intro a' w' k' t7 F' e7 s' et;refine hK3 _ _ ?_;rw [et] at hP;refine wp_seq_k ?_;intro K4 hK4;refine df22 F'.sz F'.e0 F'.e3 F'.e4 F'.e5 e7 s' fun a9 w9 f9 p9 q9 r9 t9 s9=>hK4 _ _ ?_
  have F9:Yb g b3 b4 b5 a9:=⟨f9,p9,q9,r9,t9⟩;exact hP _ _ F9 s9
 rw [show Z1 11 (Z3 Tryz.f54)=.seq (Z1 0 (Z1 11 (Z3 Tryz.f54))) (.cond (.tmp 81) (Zj (Z2 1 (Z1 11 (Z3 Tryz.f54)))) (Xx (Z2 1 (Z1 11 (Z3 Tryz.f54))))) from rfl];refine wp_seq_k ?_;intro K5 hK5;refine df16 (by omega) F2.sz F2.e0 F2.e3 F2.e4 F2.e5 u2 v2 s2 fun a3 w3 f3 p3 q3 r3 t3 u3 v3 x3 s3=>hK5 _ _ ?_
 have F3:Yb g b3 b4 b5 a3:=⟨f3,p3,q3,r3,t3⟩;refine wp_cond x3 ?_;unfold dfT0 at hrest;by_cases h:Z5 l k 7=0
 ·rw [if_pos (by simp [h])]
  simp only [h,if_true] at hrest;refine wp_mono (Q:=Exit.then K3 (fun _ _ _=>False)) ?_ (fun e a' w' h9=>by cases e <;> first | exact h9 | exact h9.elim);refine df17 hL (by omega) hE.tm F3.sz F3.e0 F3.e3 F3.e4 F3.e5 u3 s3 fun a4 w4 f4 p4 q4 r4 t4 u4 v4 s4=>?_
  have F4:Yb g b3 b4 b5 a4:=⟨f4,p4,q4,r4,t4⟩;exact hrest _ _ _ _ F4 v4 s4 rfl
 ·rw [if_neg (by simp [h])]
  simp only [h,if_false] at hrest;rw [show Xx (Z2 1 (Z1 11 (Z3 Tryz.f54)))=.seq (Z1 0 (Xx (Z2 1 (Z1 11 (Z3 Tryz.f54))))) (.cond (.tmp 89) (Zj (Z2 1 (Xx (Z2 1 (Z1 11 (Z3 Tryz.f54)))))) (Xx (Z2 1 (Xx (Z2 1 (Z1 11 (Z3 Tryz.f54))))))) from rfl];refine wp_seq_k ?_;intro K6 hK6;refine df18 (by omega) F3.sz F3.e0 F3.e3 F3.e4 F3.e5 u3 v3 s3 fun a4 w4 f4 p4 q4 r4 t4 u4 v4 x4 s4=>hK6 _ _ ?_
  have F4:Yb g b3 b4 b5 a4:=⟨f4,p4,q4,r4,t4⟩;refine wp_cond x4 ?_;by_cases h1:Z5 l k 7=1
  ·rw [if_pos (by simp [h1])]
   simp only [h1,if_true] at hrest;refine df19 hE.tm F4.sz F4.e0 F4.e3 F4.e4 F4.e5 s4 fun a5 w5 f5 p5 q5 r5 t5 v5 s5=>?_
   have F5:Yb g b3 b4 b5 a5:=⟨f5,p5,q5,r5,t5⟩;exact hrest _ _ _ _ F5 v5 s5 rfl
  ·rw [if_neg (by simp [h1])]
   simp only [h1,if_false] at hrest;rw [show Xx (Z2 1 (Xx (Z2 1 (Z1 11 (Z3 Tryz.f54)))))=.seq (Z1 0 (Xx (Z2 1 (Xx (Z2 1 (Z1 11 (Z3 Tryz.f54))))))) (.cond (.tmp 100) (Zj (Z2 1 (Xx (Z2 1 (Xx (Z2 1 (Z1 11 (Z3 Tryz.f54)))))))) .skip) from rfl];refine wp_seq_k ?_;intro K7 hK7;refine df20 F4.sz F4.e0 F4.e3 F4.e4 F4.e5 v4 s4 fun a5 w5 f5 p5 q5 r5 t5 v5 x5 s5=>hK7 _ _ ?_
   have F5:Yb g b3 b4 b5 a5:=⟨f5,p5,q5,r5,t5⟩;refine wp_cond x5 ?_;by_cases h2:m.ki=1∨m.ki=2
   ·rw [if_pos (by simp [h2])]
    simp only [h2,if_true] at hrest;refine df21 hE.tm F5.sz F5.e0 F5.e3 F5.e4 F5.e5 s5 fun a6 w6 f6 p6 q6 r6 t6 v6 s6=>?_
    have F6:Yb g b3 b4 b5 a6:=⟨f6,p6,q6,r6,t6⟩;exact hrest _ _ _ _ F6 v6 s6 rfl
   ·rw [if_neg (by simp [h2])]
    simp only [h2,if_false] at hrest;exact wp_skip (hrest _ _ _ _ F5 v5 s5 rfl)
theorem dfA13 (hL:l.length<=1048576)(hk:k<=800000000)(hF:Yb g b3 b4 b5 a)(hS:FS w0 w g v l b3 b4 b5 n xr k m ve)(hP:∀ a' w' ve',Yb g b3 b4 b5 a'->FS w0 w' g v l b3 b4 b5 n xr (k+1) ⟨m.ki,m.fr,m.td,m.tm,0,0,0,if (m.ki == 2 || m.ki == 4 || m.ki == 6)=true/\1<Z5 l k 5 then 1 else 0,0,if (m.ki == 2 || m.ki == 4 || m.ki == 6)=true then [] else m.es⟩ ve'->(Z2 16 (Z3 Tryz.f54)).wp Tryz.prog Q a' w'):(Z2 13 (Z3 Tryz.f54)).wp Tryz.prog Q a w:=by
 have hpq:=Zf l k 5 (by omega);rw [show Z2 13 (Z3 Tryz.f54)=.seq (Z1 13 (Z3 Tryz.f54)) (.seq (Z1 14 (Z3 Tryz.f54)) (.seq (Z1 15 (Z3 Tryz.f54)) (Z2 16 (Z3 Tryz.f54)))) from rfl];refine wp_seq_k ?_;intro K1 hK1;refine df23 hL (by omega) hF.sz hF.e0 hF.e3 hF.e4 hF.e5 hS fun a1 w1 f1 p1 q1 r1 t1 u1 s1=>hK1 _ _ ?_
 have F1:Yb g b3 b4 b5 a1:=⟨f1,p1,q1,r1,t1⟩;refine wp_seq_k ?_;intro K2 hK2;refine df24 F1.sz F1.e0 F1.e3 F1.e4 F1.e5 u1 s1 fun a2 w2 f2 p2 q2 r2 t2 u2 s2=>hK2 _ _ ?_
 have F2:Yb g b3 b4 b5 a2:=⟨f2,p2,q2,r2,t2⟩;refine wp_seq_k ?_;intro K3 hK3;rw [show Z1 15 (Z3 Tryz.f54)=.seq (Z1 0 (Z1 15 (Z3 Tryz.f54))) (.cond (.tmp 133) (Zj (Z2 1 (Z1 15 (Z3 Tryz.f54)))) (.skip)) from rfl];refine wp_seq_k ?_;intro K4 hK4;refine df25 F2.sz F2.e0 F2.e3 F2.e4 F2.e5 u2 s2 fun a3 w3 f3 p3 q3 r3 t3 u3 x3 s3=>hK4 _ _ ?_
 have F3:Yb g b3 b4 b5 a3:=⟨f3,p3,q3,r3,t3⟩;refine wp_cond x3 ?_;by_cases h:m.ki=2∨m.ki=4∨m.ki=6
 ·rw [if_pos (by simpa using h)]
  have hre:(m.ki == 2 || m.ki == 4 || m.ki == 6)=true:=by simp;omega
  rw [hre] at hP;simp only [true_and,if_true] at hP;rw [show Zj (Z2 1 (Z1 15 (Z3 Tryz.f54)))=.seq (Z1 0 (Zj (Z2 1 (Z1 15 (Z3 Tryz.f54))))) (.seq (Z1 1 (Zj (Z2 1 (Z1 15 (Z3 Tryz.f54))))) (.cond (.tmp 136) (Zj (Z2 2 (Zj (Z2 1 (Z1 15 (Z3 Tryz.f54)))))) .skip)) from rfl];refine wp_seq_k ?_;intro K5 hK5;refine df26 F3.sz F3.e0 F3.e3 F3.e4 F3.e5 u3 s3 fun a4 w4 f4 p4 q4 r4 t4 u4 s4=>hK5 _ _ ?_
  have F4:Yb g b3 b4 b5 a4:=⟨f4,p4,q4,r4,t4⟩;refine wp_seq_k ?_;intro K6 hK6;refine df27 (by omega) F4.sz F4.e0 F4.e3 F4.e4 F4.e5 u4 s4 fun a5 w5 f5 p5 q5 r5 t5 x5 s5=>hK6 _ _ ?_
  have F5:Yb g b3 b4 b5 a5:=⟨f5,p5,q5,r5,t5⟩;refine wp_cond x5 ?_;by_cases h2:1<Z5 l k 5
  ·rw [if_pos (by simp [h2])]
   simp only [h2,if_true] at hP;refine df28 F5.sz F5.e0 F5.e3 F5.e4 F5.e5 s5 fun a6 w6 f6 p6 q6 r6 t6 s6=>hK3 _ _ ?_
   have F6:Yb g b3 b4 b5 a6:=⟨f6,p6,q6,r6,t6⟩;exact hP _ _ _ F6 s6
  ·rw [if_neg (by simp [h2])]
   simp only [h2,if_false] at hP;exact wp_skip (hK3 _ _ (hP _ _ _ F5 s5))
 ·rw [if_neg (by simpa using h)]
  have hre:(m.ki == 2 || m.ki == 4 || m.ki == 6)=false:=by simp;omega
  rw [hre] at hP;simp only [Bool.false_eq_true,false_and,if_false] at hP;exact wp_skip (hK3 _ _ (hP _ _ _ F3 s3))
theorem dfA16 (hL:l.length<=1048576)(hk:k<=800000000)(hE:DfE w0 g n xr)(hF:Yb g b3 b4 b5 a)(hS:FS w0 w g v l b3 b4 b5 n xr k m ve)(hP:∀ a' w',Yb g b3 b4 b5 a'->a'.eval (.tmp 9)=.int .i64 (Yn l k n)->FS w0 w' g v l b3 b4 b5 n xr (k+1+1) m ve->(Z2 18 (Z3 Tryz.f54)).wp Tryz.prog Q a' w'):(Z2 16 (Z3 Tryz.f54)).wp Tryz.prog Q a w:=by
 rw [show Z2 16 (Z3 Tryz.f54)=.seq (Z1 16 (Z3 Tryz.f54)) (.seq (Z1 17 (Z3 Tryz.f54)) (Z2 18 (Z3 Tryz.f54))) from rfl];refine wp_seq_k ?_;intro K1 hK1;refine df29 hL (by omega) hE.vl hE.lg hF.sz hF.e0 hF.e3 hF.e4 hF.e5 hS fun a1 w1 f1 p1 q1 r1 t1 u1 s1=>hK1 _ _ ?_
 have F1:Yb g b3 b4 b5 a1:=⟨f1,p1,q1,r1,t1⟩;refine wp_seq_k ?_;intro K2 hK2;refine df30 F1.sz F1.e0 F1.e3 F1.e4 F1.e5 u1 s1 fun a2 w2 f2 p2 q2 r2 t2 u2 s2=>hK2 _ _ ?_
 have F2:Yb g b3 b4 b5 a2:=⟨f2,p2,q2,r2,t2⟩;exact hP _ _ F2 u2 s2
theorem dfHeadW (hL:l.length<=1048576)(hk:k<=700000000)(hE:DfE w0 g n xr)(hF:Yb g b3 b4 b5 a)(hS:FS w0 w g v l b3 b4 b5 n xr k m ve)(hP:∀ a' w' ve',Yb g b3 b4 b5 a'->a'.eval (.tmp 9)=.int .i64 (Yn l (Z09 l k n m).k n)->FS w0 w' g v l b3 b4 b5 n xr ((Z09 l k n m).k+1+1) (Z09 l k n m).m ve'->(Z2 18 (Z3 Tryz.f54)).wp Tryz.prog Q a' w'):(Z2 3 (Z3 Tryz.f54)).wp Tryz.prog Q a w:=by
 have hq:=dfHead_k l k n m;refine dfA3 hL (by omega) hE hF hS fun a1 w1 F1 s1=>?_
 refine dfA6 hL (by omega) F1 s1 fun a2 w2 F2 s2=>?_
 have h1:=Z36 l n 1 2 (k+1) m.ki;refine dfA7 hL (by show (Xp l n 1 2 (k+1) m.ki).2<=_;omega) F2 s2 fun a3 w3 F3 s3=>?_
 have h2:=Z36 l n 2 4 (Xp l n 1 2 (k+1) m.ki).2 (Xp l n 1 2 (k+1) m.ki).1;refine dfA8 hL (by show (Xp l n 2 4 (Xp l n 1 2 (k+1) m.ki).2 (Xp l n 1 2 (k+1) m.ki).1).2<=_;omega) F3 s3 fun a4 w4 F4 s4=>?_
 have e:=dfKind_eq l (k+1) n m.ki;obtain ⟨KD,hKD⟩:∃ q,q=Z38 l (k+1) n m.ki:=⟨_,rfl⟩;have s4':FS w0 w4 g v l b3 b4 b5 n xr KD.2 { { m with td:=n.id,fr:=Z0j l k n } with ki:=KD.1 } ve:=by rw [hKD,e];exact s4
 have hk4:KD.2<=k+4:=by rw [hKD,e];have h3:=Z36 l n 3 6 (Xp l n 2 4 (Xp l n 1 2 (k+1) m.ki).2 (Xp l n 1 2 (k+1) m.ki).1).2 (Xp l n 2 4 (Xp l n 1 2 (k+1) m.ki).2 (Xp l n 1 2 (k+1) m.ki).1).1;omega
 clear s4 e;refine dfA9 hL (by omega) hE F4 s4' fun a5 w5 F5 s5=>?_
 have hk5:=dfT0_k l KD.2 n KD.1;refine dfA13 hL (by show (dfT0 l KD.2 n KD.1).2<=_;omega) F5 s5 fun a6 w6 ve6 F6 s6=>?_
 have eh:Z09 l k n m=⟨⟨KD.1,Z0j l k n,n.id,min (max (dfT0 l KD.2 n KD.1).1 1) 1073741824,0,0,0,if (KD.1 == 2 || KD.1 == 4 || KD.1 == 6)=true/\1<Z5 l (dfT0 l KD.2 n KD.1).2 5 then 1 else 0,0,if (KD.1 == 2 || KD.1 == 4 || KD.1 == 6)=true then [] else m.es⟩,(dfT0 l KD.2 n KD.1).2+1⟩:=by
  rw [hKD];rfl
 rw [eh] at hP;refine dfA16 hL (by show (dfT0 l KD.2 n KD.1).2+1<=_;omega) hE F6 s6 fun a7 w7 F7 u7 s7=>?_
 exact hP _ _ _ F7 u7 s7
end
structure DfLp (g b3 b4 b5 P:Nat) (ot:Bool) (ev:Value) (a:Act) (low:Int) (i:Nat):Prop where
 fr:Yb g b3 b4 b5 a
 e9:a.eval (.tmp 9)=.int .i64 (P:Int)
 e10:a.eval (.tmp 10)=.bool ot
 e11:a.eval (.tmp 11)=.int .i64 low
 e12:a.eval (.tmp 12)=ev
 e13:a.eval (.tmp 13)=.int .i64 (i:Int)
def dfE0 (l:List Int)(n:Nd)(ot:Bool)(tm:Int)(P:Nat)(k:Nat)(e:Ent)(i:Nat):Ent×Nat:=
 if ot=true then (Xm tm e,k) else if P+i<n.log.length then (if Z5 l k 3=0 then (e,k+1) else ((n.log[P+i]?).getD e,k+1)) else (e,k)
def dfE1 (low:Int)(e:Ent):Ent:=if e.t<low then Xm low e else e
def dfE2 (tm:Int)(e:Ent):Ent:=if tm<e.t then Xm tm e else e
theorem dfEnt_eq (l:List Int)(n:Nd)(ot:Bool)(tm:Int)(P:Nat)(s:FeS)(i:Nat)(hi:i<s.es.length):dfEnt l n ot tm (P:Int) s i=⟨s.es.set i (dfE2 tm (dfE1 s.low (dfE0 l n ot tm P s.k s.es[i] i).1)),(dfE2 tm (dfE1 s.low (dfE0 l n ot tm P s.k s.es[i] i).1)).t,(dfE0 l n ot tm P s.k s.es[i] i).2⟩:=by
 unfold dfEnt;rw [List.getElem?_eq_getElem hi,show ((P:Int)+(i:Nat)).toNat=P+i by omega];rfl
theorem dfE0_k (l:List Int)(n:Nd)(ot:Bool)(tm:Int)(P k:Nat)(e:Ent)(i:Nat):(dfE0 l n ot tm P k e i).2<=k+1:=by
 unfold dfE0;split
 ·simp
 ·split
  ·split <;> simp
  ·simp
section
variable {w0:World} {g b3 b4 b5:Nat} {v:Value} {l:List Int} {n:Nd} {xr:RV} {m:Mg} {ve:Value} {k:Nat} {K:Act->World->Prop} {Q:Exit->Act->World->Prop} {a:Act} {w:World} {q N ec i P:Nat} {ot:Bool}
theorem GS.put1 {L:List Ent}{ev:Value}{T:Int}{e:Ent}{i:Nat}{h0:i<(L.set i e).length}(h:GS w0 w g v l b3 b4 b5 n xr k m ve ev ((L.set i e).set i (Xm T ((L.set i e)[i]'h0)))):GS w0 w g v l b3 b4 b5 n xr k m ve ev (L.set i (Xm T e)):=by
 rw [List.getElem_set_self,List.set_set] at h;exact h
theorem dfRound {S:FeS}(hL:l.length<=1048576)(hk:S.k<=800000000)(hE:DfE w0 g n xr)(hN:S.es.length=N)(hi:i<N)(hNb:N<=100)(hPb:P<=4096)(hF:DfLp g b3 b4 b5 P ot (.slice (some ⟨q,0,none⟩) N ec) a S.low i)(hS:GS w0 w g v l b3 b4 b5 n xr S.k m ve (.slice (some ⟨q,0,none⟩) N ec) S.es)(hP:∀ a' w',DfLp g b3 b4 b5 P ot (.slice (some ⟨q,0,none⟩) N ec) a' (dfEnt l n ot m.tm (P:Int) S i).low (i+1)->GS w0 w' g v l b3 b4 b5 n xr (dfEnt l n ot m.tm (P:Int) S i).k m ve (.slice (some ⟨q,0,none⟩) N ec) (dfEnt l n ot m.tm (P:Int) S i).es->K a' w'):(Y6 (Zn (Z2 1 (Z1 29 (Z3 Tryz.f54))))).wp Tryz.prog (Exit.then K Q) a w:=by
 have hSi:i<S.es.length:=by omega
 rw [dfEnt_eq l n ot m.tm P S i hSi] at hP;obtain ⟨R0,hR0⟩:∃ r,r=dfE0 l n ot m.tm P S.k S.es[i] i:=⟨_,rfl⟩;rw [<-hR0] at hP;have hRk:R0.2<=S.k+1:=by rw [hR0];exact dfE0_k _ _ _ _ _ _ _ _
 rw [show Y6 (Zn (Z2 1 (Z1 29 (Z3 Tryz.f54))))=.seq (Z1 0 (Y6 (Zn (Z2 1 (Z1 29 (Z3 Tryz.f54)))))) (.seq (.block 1 (Zn (Z1 1 (Y6 (Zn (Z2 1 (Z1 29 (Z3 Tryz.f54)))))))) (Z2 2 (Y6 (Zn (Z2 1 (Z1 29 (Z3 Tryz.f54))))))) from rfl];refine wp_seq_k ?_;intro K1 hK1;rw [show Z1 0 (Y6 (Zn (Z2 1 (Z1 29 (Z3 Tryz.f54)))))=.seq (Z1 0 (Z1 0 (Y6 (Zn (Z2 1 (Z1 29 (Z3 Tryz.f54))))))) (.cond (.tmp 278) .skip (.exit 0)) from rfl];refine wp_seq_k ?_;intro K2 hK2;refine df58 hNb (by omega) hF.fr.sz hF.fr.e0 hF.fr.e3 hF.fr.e4 hF.fr.e5 hF.e9 hF.e10 hF.e11 hF.e12 hF.e13 hS fun a1 w1 f1 p1 q1 r1 t1 c1 d1 l1 m1 n1 u1 s1=>hK2 _ _ ?_
 have P1:DfLp g b3 b4 b5 P ot (.slice (some ⟨q,0,none⟩) N ec) a1 S.low i:=⟨⟨f1,p1,q1,r1,t1⟩,c1,d1,l1,m1,n1⟩;refine wp_cond_true (by rw [u1,decide_eq_true hi]) (wp_skip (hK1 _ _ ?_));refine wp_seq_k ?_;intro K3 hK3;refine wp_block ?_;rw [show Zn (Z1 1 (Y6 (Zn (Z2 1 (Z1 29 (Z3 Tryz.f54))))))=.seq (Z1 0 (Zn (Z1 1 (Y6 (Zn (Z2 1 (Z1 29 (Z3 Tryz.f54)))))))) (.seq (Z1 1 (Zn (Z1 1 (Y6 (Zn (Z2 1 (Z1 29 (Z3 Tryz.f54)))))))) (.seq (Z1 2 (Zn (Z1 1 (Y6 (Zn (Z2 1 (Z1 29 (Z3 Tryz.f54)))))))) (.seq (Z1 3 (Zn (Z1 1 (Y6 (Zn (Z2 1 (Z1 29 (Z3 Tryz.f54)))))))) (Z2 4 (Zn (Z1 1 (Y6 (Zn (Z2 1 (Z1 29 (Z3 Tryz.f54))))))))))) from rfl];refine wp_seq_k ?_;intro K4 hK4;refine df60 hN hi hNb hPb P1.fr.sz P1.fr.e0 P1.fr.e3 P1.fr.e4 P1.fr.e5 P1.e9 P1.e10 P1.e11 P1.e12 P1.e13 s1 fun a2 w2 f2 p2 q2 r2 t2 c2 d2 l2 m2 n2 z2 s2=>hK4 _ _ ?_
 have P2:DfLp g b3 b4 b5 P ot (.slice (some ⟨q,0,none⟩) N ec) a2 S.low i:=⟨⟨f2,p2,q2,r2,t2⟩,c2,d2,l2,m2,n2⟩;refine wp_seq_k ?_;intro K5 hK5
 have hA:∀ a3 w3,DfLp g b3 b4 b5 P ot (.slice (some ⟨q,0,none⟩) N ec) a3 S.low i->a3.eval (.tmp 14)=.int .i64 ((P:Int)+(i:Int))->GS w0 w3 g v l b3 b4 b5 n xr R0.2 m ve (.slice (some ⟨q,0,none⟩) N ec) (S.es.set i R0.1)->K5 a3 w3:=by
  intro a3 w3 P3 z3 s3;refine hK5 _ _ ?_;refine wp_seq_k ?_;intro K6 hK6
  have hB:∀ a5 w5,DfLp g b3 b4 b5 P ot (.slice (some ⟨q,0,none⟩) N ec) a5 S.low i->a5.eval (.tmp 14)=.int .i64 ((P:Int)+(i:Int))->GS w0 w5 g v l b3 b4 b5 n xr R0.2 m ve (.slice (some ⟨q,0,none⟩) N ec) (S.es.set i (dfE1 S.low R0.1))->K6 a5 w5:=by
   intro a5 w5 P5 z5 s5;refine hK6 _ _ ?_;refine wp_seq_k ?_;intro K7 hK7
   have hC:∀ a7 w7,DfLp g b3 b4 b5 P ot (.slice (some ⟨q,0,none⟩) N ec) a7 S.low i->a7.eval (.tmp 14)=.int .i64 ((P:Int)+(i:Int))->GS w0 w7 g v l b3 b4 b5 n xr R0.2 m ve (.slice (some ⟨q,0,none⟩) N ec) (S.es.set i (dfE2 m.tm (dfE1 S.low R0.1)))->K7 a7 w7:=by
    intro a7 w7 P7 z7 s7;refine hK7 _ _ ?_;refine wp_mono (Q:=Exit.then K3 (fun _ _ _=>False)) ?_ (fun e a' w' h9=>by cases e <;> first | exact h9 | exact h9.elim);refine df69 (List.length_set.trans hN) hi hNb hPb P7.fr.sz P7.fr.e0 P7.fr.e3 P7.fr.e4 P7.fr.e5 P7.e9 P7.e10 P7.e11 P7.e12 P7.e13 z7 s7 fun a8 w8 f8 p8 q8 r8 t8 c8 d8 l8 m8 n8 s8=>hK3 _ _ ?_
    rw [List.getElem_set_self] at l8;refine df59 (es:=S.es.set i (dfE2 m.tm (dfE1 S.low R0.1))) (List.length_set.trans hN) hi hNb hPb f8 p8 q8 r8 t8 c8 d8 l8 m8 n8 s8 fun a9 w9 f9 p9 q9 r9 t9 c9 d9 l9 m9 n9 s9=>?_
    exact hP _ _ ⟨⟨f9,p9,q9,r9,t9⟩,c9,d9,l9,m9,n9⟩ s9
   rw [show Z1 3 (Zn (Z1 1 (Y6 (Zn (Z2 1 (Z1 29 (Z3 Tryz.f54)))))))=.seq (Z1 0 (Z1 3 (Zn (Z1 1 (Y6 (Zn (Z2 1 (Z1 29 (Z3 Tryz.f54))))))))) (.cond (.tmp 328) (Zj (Z2 1 (Z1 3 (Zn (Z1 1 (Y6 (Zn (Z2 1 (Z1 29 (Z3 Tryz.f54)))))))))) (.skip)) from rfl];refine wp_seq_k ?_;intro K8 hK8;refine df67 (es:=S.es.set i (dfE1 S.low R0.1)) (List.length_set.trans hN) hi hNb hPb P5.fr.sz P5.fr.e0 P5.fr.e3 P5.fr.e4 P5.fr.e5 P5.e9 P5.e10 P5.e11 P5.e12 P5.e13 z5 s5 fun a6 w6 f6 p6 q6 r6 t6 c6 d6 l6 m6 n6 z6 x6 s6=>hK8 _ _ ?_
   have P6:DfLp g b3 b4 b5 P ot (.slice (some ⟨q,0,none⟩) N ec) a6 S.low i:=⟨⟨f6,p6,q6,r6,t6⟩,c6,d6,l6,m6,n6⟩;rw [List.getElem_set_self] at x6;refine wp_cond x6 ?_;unfold dfE2 at hC;by_cases h:m.tm<(dfE1 S.low R0.1).t
   ·rw [if_pos (by simp [h])]
    simp only [h,if_true] at hC;refine df68 (es:=S.es.set i (dfE1 S.low R0.1)) (List.length_set.trans hN) hi hNb hPb P6.fr.sz P6.fr.e0 P6.fr.e3 P6.fr.e4 P6.fr.e5 P6.e9 P6.e10 P6.e11 P6.e12 P6.e13 z6 s6 fun a8 w8 f8 p8 q8 r8 t8 c8 d8 l8 m8 n8 z8 s8=>?_
    exact hC _ _ ⟨⟨f8,p8,q8,r8,t8⟩,c8,d8,l8,m8,n8⟩ z8 s8.put1
   ·rw [if_neg (by simp [h])]
    simp only [h,if_false] at hC;exact wp_skip (hC _ _ P6 z6 s6)
  rw [show Z1 2 (Zn (Z1 1 (Y6 (Zn (Z2 1 (Z1 29 (Z3 Tryz.f54)))))))=.seq (Z1 0 (Z1 2 (Zn (Z1 1 (Y6 (Zn (Z2 1 (Z1 29 (Z3 Tryz.f54))))))))) (.cond (.tmp 315) (Zj (Z2 1 (Z1 2 (Zn (Z1 1 (Y6 (Zn (Z2 1 (Z1 29 (Z3 Tryz.f54)))))))))) (.skip)) from rfl];refine wp_seq_k ?_;intro K8 hK8;refine df65 (es:=S.es.set i R0.1) (List.length_set.trans hN) hi hNb hPb P3.fr.sz P3.fr.e0 P3.fr.e3 P3.fr.e4 P3.fr.e5 P3.e9 P3.e10 P3.e11 P3.e12 P3.e13 z3 s3 fun a4 w4 f4 p4 q4 r4 t4 c4 d4 l4 m4 n4 z4 x4 s4=>hK8 _ _ ?_
  have P4:DfLp g b3 b4 b5 P ot (.slice (some ⟨q,0,none⟩) N ec) a4 S.low i:=⟨⟨f4,p4,q4,r4,t4⟩,c4,d4,l4,m4,n4⟩;rw [List.getElem_set_self] at x4;refine wp_cond x4 ?_;unfold dfE1 at hB;by_cases h:R0.1.t<S.low
  ·rw [if_pos (by simp [h])]
   simp only [h,if_true] at hB;refine df66 (es:=S.es.set i R0.1) (List.length_set.trans hN) hi hNb hPb P4.fr.sz P4.fr.e0 P4.fr.e3 P4.fr.e4 P4.fr.e5 P4.e9 P4.e10 P4.e11 P4.e12 P4.e13 z4 s4 fun a8 w8 f8 p8 q8 r8 t8 c8 d8 l8 m8 n8 z8 s8=>?_
   exact hB _ _ ⟨⟨f8,p8,q8,r8,t8⟩,c8,d8,l8,m8,n8⟩ z8 s8.put1
  ·rw [if_neg (by simp [h])]
   simp only [h,if_false] at hB;exact wp_skip (hB _ _ P4 z4 s4)
 rw [show Z1 1 (Zn (Z1 1 (Y6 (Zn (Z2 1 (Z1 29 (Z3 Tryz.f54)))))))=.seq (Z1 0 (Z1 1 (Zn (Z1 1 (Y6 (Zn (Z2 1 (Z1 29 (Z3 Tryz.f54))))))))) (.cond (.tmp 284) (Zj (Z2 1 (Z1 1 (Zn (Z1 1 (Y6 (Zn (Z2 1 (Z1 29 (Z3 Tryz.f54)))))))))) (Xx (Z2 1 (Z1 1 (Zn (Z1 1 (Y6 (Zn (Z2 1 (Z1 29 (Z3 Tryz.f54))))))))))) from rfl];refine wp_seq_k ?_;intro K6 hK6;refine df61 hN hi hNb hPb P2.fr.sz P2.fr.e0 P2.fr.e3 P2.fr.e4 P2.fr.e5 P2.e9 P2.e10 P2.e11 P2.e12 P2.e13 z2 s2 fun a3 w3 f3 p3 q3 r3 t3 c3 d3 l3 m3 n3 z3 x3 s3=>hK6 _ _ ?_
 have P3:DfLp g b3 b4 b5 P ot (.slice (some ⟨q,0,none⟩) N ec) a3 S.low i:=⟨⟨f3,p3,q3,r3,t3⟩,c3,d3,l3,m3,n3⟩;refine wp_cond x3 ?_;unfold dfE0 at hR0
 cases hot:ot with
 | true=>
  rw [if_pos rfl];rw [hot,if_pos rfl] at hR0;subst hR0;refine df62 hN hi hNb hPb P3.fr.sz P3.fr.e0 P3.fr.e3 P3.fr.e4 P3.fr.e5 P3.e9 P3.e10 P3.e11 P3.e12 P3.e13 z3 s3 fun a8 w8 f8 p8 q8 r8 t8 c8 d8 l8 m8 n8 z8 s8=>?_
  exact hA _ _ ⟨⟨f8,p8,q8,r8,t8⟩,c8,d8,l8,m8,n8⟩ z8 s8
 | false=>
  rw [if_neg (by simp)];rw [hot,if_neg (by simp)] at hR0;rw [show Xx (Z2 1 (Z1 1 (Zn (Z1 1 (Y6 (Zn (Z2 1 (Z1 29 (Z3 Tryz.f54)))))))))=.seq (Z1 0 (Xx (Z2 1 (Z1 1 (Zn (Z1 1 (Y6 (Zn (Z2 1 (Z1 29 (Z3 Tryz.f54))))))))))) (.cond (.tmp 300) (Zj (Z2 1 (Xx (Z2 1 (Z1 1 (Zn (Z1 1 (Y6 (Zn (Z2 1 (Z1 29 (Z3 Tryz.f54)))))))))))) .skip) from rfl];refine wp_seq_k ?_;intro K7 hK7;by_cases h2:P+i<n.log.length
  ·rw [if_pos h2] at hR0
   obtain ⟨q2,c2,hQ⟩:=hE.lq (by omega);refine df63t hN hi hNb hPb hL (by omega) hE.vl hE.lg h2 P3.fr.sz P3.fr.e0 P3.fr.e3 P3.fr.e4 P3.fr.e5 P3.e9 P3.e10 P3.e11 P3.e12 P3.e13 z3 s3 fun a4 w4 f4 p4 q4 r4 t4 c4 d4 l4 m4 n4 z4 x4 s4=>hK7 _ _ ?_
   have P4:DfLp g b3 b4 b5 P ot (.slice (some ⟨q,0,none⟩) N ec) a4 S.low i:=⟨⟨f4,p4,q4,r4,t4⟩,c4,d4,l4,m4,n4⟩;refine wp_cond x4 ?_;by_cases h3:Z5 l S.k 3=0
   ·rw [if_neg (by simp [h3])]
    rw [if_pos h3] at hR0;subst hR0;exact wp_skip (hA _ _ P4 z4 (by rw [List.set_getElem_self];exact s4))
   ·rw [if_pos (by simp [h3])]
    rw [if_neg h3,List.getElem?_eq_getElem h2] at hR0;subst hR0;refine df64 hN hi hNb hPb hQ hE.lg h2 P4.fr.sz P4.fr.e0 P4.fr.e3 P4.fr.e4 P4.fr.e5 P4.e9 P4.e10 P4.e11 P4.e12 P4.e13 z4 s4 fun a8 w8 f8 p8 q8 r8 t8 c8 d8 l8 m8 n8 z8 s8=>?_
    exact hA _ _ ⟨⟨f8,p8,q8,r8,t8⟩,c8,d8,l8,m8,n8⟩ z8 s8
  ·rw [if_neg h2] at hR0
   subst hR0;refine df63f hN hi hNb hPb hE.vl hE.lg h2 P3.fr.sz P3.fr.e0 P3.fr.e3 P3.fr.e4 P3.fr.e5 P3.e9 P3.e10 P3.e11 P3.e12 P3.e13 z3 s3 fun a4 w4 f4 p4 q4 r4 t4 c4 d4 l4 m4 n4 z4 x4 s4=>hK7 _ _ ?_
   have P4:DfLp g b3 b4 b5 P ot (.slice (some ⟨q,0,none⟩) N ec) a4 S.low i:=⟨⟨f4,p4,q4,r4,t4⟩,c4,d4,l4,m4,n4⟩;refine wp_cond x4 ?_;exact wp_skip (hA _ _ P4 z4 (by rw [List.set_getElem_self];exact s4))
theorem Z25 (l:List Int)(n:Nd)(ot:Bool)(tm pl:Int)(s:FeS):∀ i,(J2 l n ot tm pl s i).es.length=s.es.length
 | 0=>rfl
 | i+1=>by
  show ((J2 l n ot tm pl s i).es.set i _).length=_;rw [List.length_set,Z25 l n ot tm pl s i]
theorem dfEnts_k (l:List Int)(n:Nd)(ot:Bool)(tm:Int)(P:Nat)(s:FeS):∀ i,i<=s.es.length->(J2 l n ot tm (P:Int) s i).k<=s.k+i
 | 0,_=>Nat.le_refl _
 | i+1,hi=>by
  have h1:=dfEnts_k l n ot tm P s i (by omega);have h2:=Z25 l n ot tm (P:Int) s i;show (dfEnt l n ot tm (P:Int) (J2 l n ot tm (P:Int) s i) i).k<=_;rw [dfEnt_eq l n ot tm P _ i (by omega)];have h3:=dfE0_k l n ot tm P (J2 l n ot tm (P:Int) s i).k ((J2 l n ot tm (P:Int) s i).es[i]'(by omega)) i;show (dfE0 l n ot tm P (J2 l n ot tm (P:Int) s i).k ((J2 l n ot tm (P:Int) s i).es[i]'(by omega)) i).2<=_;omega
theorem dfLoop {S0:FeS}{ev:Value}(hL:l.length<=1048576)(hk:S0.k<=700000000)(hE:DfE w0 g n xr)(hNb:S0.es.length<=100)(hPb:P<=4096)(hF:DfLp g b3 b4 b5 P ot ev a S0.low 0)(hS:GS w0 w g v l b3 b4 b5 n xr S0.k m ve ev S0.es)(hP:∀ a' w',Yb g b3 b4 b5 a'->a'.eval (.tmp 12)=ev->GS w0 w' g v l b3 b4 b5 n xr (J2 l n ot m.tm (P:Int) S0 S0.es.length).k m ve ev (J2 l n ot m.tm (P:Int) S0 S0.es.length).es->K a' w'):(Z2 1 (Z1 29 (Z3 Tryz.f54))).wp Tryz.prog (Exit.then K Q) a w:=by
 rw [show Z2 1 (Z1 29 (Z3 Tryz.f54))=.block 0 (.loop (Y6 (Zn (Z2 1 (Z1 29 (Z3 Tryz.f54)))))) from rfl];refine wp_block ?_;refine wp_loop (fun a w=>∃(i:Nat),i<=S0.es.length/\DfLp g b3 b4 b5 P ot ev a (J2 l n ot m.tm (P:Int) S0 i).low i/\GS w0 w g v l b3 b4 b5 n xr (J2 l n ot m.tm (P:Int) S0 i).k m ve ev (J2 l n ot m.tm (P:Int) S0 i).es) (fun a _=>S0.es.length+1-(RowKit.intOf (a.eval (.tmp 13))).toNat) ⟨0,Nat.zero_le _,hF,hS⟩ ?_;rintro a1 w1 ⟨i,hi,P1,s1⟩;have hlen:=Z25 l n ot m.tm (P:Int) S0 i;have hkk:=dfEnts_k l n ot m.tm P S0 i hi;rcases Nat.lt_or_ge i S0.es.length with hlt | hge
 ·obtain ⟨ea,ec,hev⟩:=hS.es.shape
  obtain ⟨q,hq,_,_⟩:=Z0u (k:=i) (by have h9:=s1.es;rw [hev] at h9;exact h9) hlen.symm (by omega) (by unfold maxLen;omega);subst hq;subst hev;refine dfRound (S:=(J2 l n ot m.tm (P:Int) S0 i)) hL (by omega) hE hlen hlt (by omega) hPb P1 s1 ?_;intro a' w' P2 s2;refine ⟨⟨i+1,by omega,P2,s2⟩,?_⟩;rw [P2.e13,P1.e13];simp only [RowKit.intOf];omega
 ·have he:i=S0.es.length:=by omega
  subst he;obtain ⟨ea,ec,hev⟩:=hS.es.shape;subst hev;rw [show Y6 (Zn (Z2 1 (Z1 29 (Z3 Tryz.f54))))=.seq (Z1 0 (Y6 (Zn (Z2 1 (Z1 29 (Z3 Tryz.f54)))))) (.seq (.block 1 (Zn (Z1 1 (Y6 (Zn (Z2 1 (Z1 29 (Z3 Tryz.f54)))))))) (Z2 2 (Y6 (Zn (Z2 1 (Z1 29 (Z3 Tryz.f54))))))) from rfl];refine wp_seq_k ?_;intro K1 hK1;rw [show Z1 0 (Y6 (Zn (Z2 1 (Z1 29 (Z3 Tryz.f54)))))=.seq (Z1 0 (Z1 0 (Y6 (Zn (Z2 1 (Z1 29 (Z3 Tryz.f54))))))) (.cond (.tmp 278) .skip (.exit 0)) from rfl];refine wp_seq_k ?_;intro K2 hK2;refine df58 (by omega) (by omega) P1.fr.sz P1.fr.e0 P1.fr.e3 P1.fr.e4 P1.fr.e5 P1.e9 P1.e10 P1.e11 P1.e12 P1.e13 s1 fun a2 w2 f2 p2 q2 r2 t2 c2 d2 l2 m2 n2 u2 s2=>hK2 _ _ ?_
  refine wp_cond_false (by rw [u2,decide_eq_false (Nat.lt_irrefl _)]) (wp_exit ?_);exact hP _ _ ⟨f2,p2,q2,r2,t2⟩ m2 s2
end
def dfRep (l:List Int)(k:Nat)(n:Nd)(m:Mg)(p:Int):FmS:=
 if n.ro=3/\m.ok=0 then ⟨{ m with li:=n.nx.getD (m.fr-1).toNat 0-1,hi:=(Z5 l k (n.log.length+2):Nat) },k+Zm (n.log.length+2)⟩ else ⟨{ m with li:=p },k⟩
def J5 (l:List Int)(k:Nat)(n:Nd)(ki p:Int):Bool×Int×Nat:=
 if ki=5 then (if Z5 l k 3=0 then (true,max 0 (min ((n.log.length:Int)-1-(Z5 l (k+1) 3:Nat)) (max p n.cm)),k+1+1) else (false,p,k+1)) else (false,p,k)
theorem dfOth_ok (l:List Int)(k:Nat)(n:Nd)(ki p:Int)(hp:0<=p/\p<=4096)(hn:n.log.length<=4096):0<=(J5 l k n ki p).2.1/\(J5 l k n ki p).2.1<=4096/\(J5 l k n ki p).2.2<=k+2:=by
 unfold J5;split
 ·split
  ·simp only []
   omega
  ·simp only []
   omega
 ·simp only []
  omega
def dfLt (n:Nd)(p tm:Int):Int:=if p<=n.log.length then min (Jw n.log p.toNat) tm else tm
def Jl (l:List Int)(k:Nat)(n:Nd)(p tm lt:Int):Int×Nat:=if 0<p then (if Z5 l k 6=0 then max 1 (dfLt n p tm-1) else dfLt n p tm,k+1) else (lt,k)
theorem dfLogG_ok (l:List Int)(k:Nat)(n:Nd)(p tm lt:Int)(ht:1<=tm/\tm<=1073741824)(hl:0<=lt/\lt<=1073741824)(hT:∀ q,0<=Jw n.log q/\Jw n.log q<=1073741824):0<=(Jl l k n p tm lt).1/\(Jl l k n p tm lt).1<=1073741824/\(Jl l k n p tm lt).2<=k+1:=by
 have h1:=hT p.toNat
 have h2:0<=dfLt n p tm/\dfLt n p tm<=1073741824:=by
  unfold dfLt;split <;> omega
 unfold Jl;split
 ·split
  ·simp only []
   omega
  ·simp only []
   omega
 ·simp only []
  omega
theorem DfE.term {w0:World}{g:Nat}{n:Nd}{x:RV}(h:DfE w0 g n x)(q:Nat):0<=Jw n.log q/\Jw n.log q<=1073741824:=by
 unfold Jw;split
 ·omega
 ·cases he:n.log[q-1]? with
  | none=>simp
  | some e=>exact h.lt e (List.mem_of_getElem? he)
def Z06 (l:List Int)(k:Nat)(ot:Bool)(tm:Int):Int×Nat:=if ot=true then (if Z5 l k 2=0 then (min (tm+1) 1073741824,k+1) else (tm,k+1)) else (tm,k)
theorem dfTm_ok (l:List Int)(k:Nat)(ot:Bool)(tm:Int)(h:1<=tm/\tm<=1073741824):(1<=(Z06 l k ot tm).1/\(Z06 l k ot tm).1<=1073741824)/\(Z06 l k ot tm).2<=k+1:=by
 unfold Z06;split
 ·split
  ·simp only []
   omega
  ·simp only []
   omega
 ·simp only []
  omega
section
variable {w0:World} {g b3 b4 b5:Nat} {v:Value} {l:List Int} {n:Nd} {xr:RV} {m:Mg} {ve:Value} {k:Nat} {Q:Exit->Act->World->Prop} {a:Act} {w:World}
theorem dfB18 {p:Int}(hL:l.length<=1048576)(hk:k<=800000000)(hE:DfE w0 g n xr)(hfr:1<=m.fr/\m.fr<=n.sz)(hF:Yb g b3 b4 b5 a)(h9:a.eval (.tmp 9)=.int .i64 p)(hS:FS w0 w g v l b3 b4 b5 n xr k m ve)(hR:m.ki=6->∀ a' w' ve',SzD a' 343->a'.eval (.tmp 4)=.pointer (some ⟨b4,0,none⟩)->FR w0 w' g v l b4 (dfRep l k n m p).k (dfRep l k n m p).m ve'->Q .ret a' w')(hP:¬ m.ki=6->∀ a' w',Yb g b3 b4 b5 a'->a'.eval (.tmp 9)=.int .i64 p->FS w0 w' g v l b3 b4 b5 n xr k m ve->(Z2 19 (Z3 Tryz.f54)).wp Tryz.prog Q a' w'):(Z2 18 (Z3 Tryz.f54)).wp Tryz.prog Q a w:=by
 rw [show Z2 18 (Z3 Tryz.f54)=.seq (Z1 18 (Z3 Tryz.f54)) (Z2 19 (Z3 Tryz.f54)) from rfl];refine wp_seq_k ?_;intro K1 hK1;rw [show Z1 18 (Z3 Tryz.f54)=.seq (Z1 0 (Z1 18 (Z3 Tryz.f54))) (.cond (.tmp 152) (Zj (Z2 1 (Z1 18 (Z3 Tryz.f54)))) (.skip)) from rfl];refine wp_seq_k ?_;intro K2 hK2;refine df31 hF.sz hF.e0 hF.e3 hF.e4 hF.e5 h9 hS fun a1 w1 f1 p1 q1 r1 t1 c1 u1 s1=>hK2 _ _ ?_
 have F1:Yb g b3 b4 b5 a1:=⟨f1,p1,q1,r1,t1⟩;refine wp_cond u1 ?_;by_cases h:m.ki=6
 ·rw [if_pos (by simpa using h)]
  rw [show Zj (Z2 1 (Z1 18 (Z3 Tryz.f54)))=.seq (Z1 0 (Zj (Z2 1 (Z1 18 (Z3 Tryz.f54))))) (.seq (Z1 1 (Zj (Z2 1 (Z1 18 (Z3 Tryz.f54))))) (.seq (Z1 2 (Zj (Z2 1 (Z1 18 (Z3 Tryz.f54))))) .ret)) from rfl];refine wp_seq_k ?_;intro K3 hK3;refine df32 F1.sz F1.e0 F1.e3 F1.e4 F1.e5 c1 s1 fun a2 w2 f2 p2 q2 r2 t2 s2=>hK3 _ _ ?_
  have F2:Yb g b3 b4 b5 a2:=⟨f2,p2,q2,r2,t2⟩;refine wp_seq_k ?_;intro K4 hK4;rw [show Z1 1 (Zj (Z2 1 (Z1 18 (Z3 Tryz.f54))))=.seq (Z1 0 (Z1 1 (Zj (Z2 1 (Z1 18 (Z3 Tryz.f54)))))) (.cond (.tmp 162) (Zj (Z2 1 (Z1 1 (Zj (Z2 1 (Z1 18 (Z3 Tryz.f54))))))) .skip) from rfl];refine wp_seq_k ?_;intro K5 hK5;refine df33 F2.sz F2.e0 F2.e3 F2.e4 F2.e5 s2 fun a3 w3 f3 p3 q3 r3 t3 u3 s3=>hK5 _ _ ?_
  have F3:Yb g b3 b4 b5 a3:=⟨f3,p3,q3,r3,t3⟩;refine wp_cond u3 ?_;by_cases h2:n.ro=3/\m.ok=0
  ·rw [if_pos (by simpa using h2)]
   rw [show dfRep l k n m p=⟨{ m with li:=n.nx.getD (m.fr-1).toNat 0-1,hi:=(Z5 l k (n.log.length+2):Nat) },k+Zm (n.log.length+2)⟩ from if_pos h2] at hR;have hsz:=hE.sz;obtain ⟨hj,hy,q,c,hv,hq,hqg,hc⟩:=hE.nx h2.1 (m.fr-1).toNat (by omega);rw [show Zj (Z2 1 (Z1 1 (Zj (Z2 1 (Z1 18 (Z3 Tryz.f54))))))=.seq (Z1 0 (Zj (Z2 1 (Z1 1 (Zj (Z2 1 (Z1 18 (Z3 Tryz.f54)))))))) (Z2 1 (Zj (Z2 1 (Z1 1 (Zj (Z2 1 (Z1 18 (Z3 Tryz.f54)))))))) from rfl];refine wp_seq_k ?_;intro K6 hK6;refine df34 (m:={ m with li:=p }) (j:=(m.fr-1).toNat) (y:=n.nx.getD (m.fr-1).toNat 0) hj (by omega) (show m.fr=_ by omega) hy F3.sz F3.e0 F3.e3 F3.e4 F3.e5 s3 ⟨q,c,hv,by rw [<-hc];unfold World.cell?;rw [s3.old hq hqg]⟩ fun a4 w4 f4 p4 q4 r4 t4 s4=>hK6 _ _ ?_
   have F4:Yb g b3 b4 b5 a4:=⟨f4,p4,q4,r4,t4⟩;refine df35 hL (by omega) hE.vl hE.lg F4.sz F4.e0 F4.e3 F4.e4 F4.e5 s4 fun a5 w5 f5 p5 q5 r5 t5 s5=>hK4 _ _ ?_
   have F5:Yb g b3 b4 b5 a5:=⟨f5,p5,q5,r5,t5⟩;refine wp_seq_k ?_;intro K7 hK7;refine df36 F5.sz F5.e4 F5.e5 s5 fun a6 w6 f6 r6 s6=>hK7 _ _ (wp_ret ?_)
   exact hR h _ _ _ f6 r6 s6
  ·rw [if_neg (by simpa using h2)]
   rw [show dfRep l k n m p=⟨{ m with li:=p },k⟩ from if_neg h2] at hR;refine wp_skip (hK4 _ _ ?_);refine wp_seq_k ?_;intro K7 hK7;refine df36 F3.sz F3.e4 F3.e5 s3 fun a6 w6 f6 r6 s6=>hK7 _ _ (wp_ret ?_)
   exact hR h _ _ _ f6 r6 s6
 ·rw [if_neg (by simpa using h)]
  exact wp_skip (hK1 _ _ (hP h _ _ F1 c1 s1))
theorem dfB19 {p:Int}(hF:Yb g b3 b4 b5 a)(h9:a.eval (.tmp 9)=.int .i64 p)(hS:FS w0 w g v l b3 b4 b5 n xr k m ve)(hR:(m.ki=2∨m.ki=4)->∀ a' w' ve',SzD a' 343->a'.eval (.tmp 4)=.pointer (some ⟨b4,0,none⟩)->FR w0 w' g v l b4 k m ve'->Q .ret a' w')(hP:¬(m.ki=2∨m.ki=4)->∀ a' w',Yb g b3 b4 b5 a'->a'.eval (.tmp 9)=.int .i64 p->FS w0 w' g v l b3 b4 b5 n xr k m ve->(Z2 20 (Z3 Tryz.f54)).wp Tryz.prog Q a' w'):(Z2 19 (Z3 Tryz.f54)).wp Tryz.prog Q a w:=by
 rw [show Z2 19 (Z3 Tryz.f54)=.seq (Z1 19 (Z3 Tryz.f54)) (Z2 20 (Z3 Tryz.f54)) from rfl];refine wp_seq_k ?_;intro K1 hK1;rw [show Z1 19 (Z3 Tryz.f54)=.seq (Z1 0 (Z1 19 (Z3 Tryz.f54))) (.cond (.tmp 187) (Zj (Z2 1 (Z1 19 (Z3 Tryz.f54)))) (.skip)) from rfl];refine wp_seq_k ?_;intro K2 hK2;refine df37 hF.sz hF.e0 hF.e3 hF.e4 hF.e5 h9 hS fun a1 w1 f1 p1 q1 r1 t1 c1 u1 s1=>hK2 _ _ ?_
 have F1:Yb g b3 b4 b5 a1:=⟨f1,p1,q1,r1,t1⟩;refine wp_cond u1 ?_;by_cases h:m.ki=2∨m.ki=4
 ·rw [if_pos (by simpa using h)]
  rw [show Zj (Z2 1 (Z1 19 (Z3 Tryz.f54)))=.seq (Z1 0 (Zj (Z2 1 (Z1 19 (Z3 Tryz.f54))))) .ret from rfl];refine wp_seq_k ?_;intro K3 hK3;refine df38 F1.sz F1.e4 F1.e5 s1 fun a2 w2 f2 r2 s2=>hK3 _ _ (wp_ret ?_)
  exact hR h _ _ _ f2 r2 s2
 ·rw [if_neg (by simpa using h)]
  exact wp_skip (hK1 _ _ (hP h _ _ F1 c1 s1))
theorem dfB20 {p:Int}(hL:l.length<=1048576)(hk:k<=800000000)(hE:DfE w0 g n xr)(hF:Yb g b3 b4 b5 a)(h9:a.eval (.tmp 9)=.int .i64 p)(hS:FS w0 w g v l b3 b4 b5 n xr k m ve)(hP:∀ a' w',Yb g b3 b4 b5 a'->a'.eval (.tmp 9)=.int .i64 (J5 l k n m.ki p).2.1->a'.eval (.tmp 10)=.bool (J5 l k n m.ki p).1->FS w0 w' g v l b3 b4 b5 n xr (J5 l k n m.ki p).2.2 m ve->(Z2 22 (Z3 Tryz.f54)).wp Tryz.prog Q a' w'):(Z2 20 (Z3 Tryz.f54)).wp Tryz.prog Q a w:=by
 rw [show Z2 20 (Z3 Tryz.f54)=.seq (Z1 20 (Z3 Tryz.f54)) (.seq (Z1 21 (Z3 Tryz.f54)) (Z2 22 (Z3 Tryz.f54))) from rfl];unfold J5 at hP;refine wp_seq_k ?_;intro K1 hK1;by_cases h:m.ki=5
 ·rw [if_pos h] at hP
  refine df39t hL (by omega) h hF.sz hF.e0 hF.e3 hF.e4 hF.e5 h9 hS fun a1 w1 f1 p1 q1 r1 t1 c1 d1 s1=>hK1 _ _ ?_
  have F1:Yb g b3 b4 b5 a1:=⟨f1,p1,q1,r1,t1⟩;refine wp_seq_k ?_;intro K2 hK2;rw [show Z1 21 (Z3 Tryz.f54)=.seq (Z1 0 (Z1 21 (Z3 Tryz.f54))) (.cond (.tmp 197) (Zj (Z2 1 (Z1 21 (Z3 Tryz.f54)))) (.skip)) from rfl];refine wp_seq_k ?_;intro K3 hK3;refine df40 F1.sz F1.e0 F1.e3 F1.e4 F1.e5 c1 d1 s1 fun a2 w2 f2 p2 q2 r2 t2 c2 d2 u2 s2=>hK3 _ _ ?_
  have F2:Yb g b3 b4 b5 a2:=⟨f2,p2,q2,r2,t2⟩;refine wp_cond u2 ?_;by_cases h2:Z5 l k 3=0
  ·rw [if_pos h2] at hP
   rw [if_pos (by simp [h2])];rw [h2] at d2;refine df41 hL (by omega) hE.vl hE.lg F2.sz F2.e0 F2.e3 F2.e4 F2.e5 c2 d2 s2 fun a3 w3 f3 p3 q3 r3 t3 d3 c3 s3=>hK2 _ _ ?_
   have F3:Yb g b3 b4 b5 a3:=⟨f3,p3,q3,r3,t3⟩;exact hP _ _ F3 c3 d3 s3
  ·rw [if_neg h2] at hP
   rw [if_neg (by simp [h2])];rw [decide_eq_false h2] at d2;exact wp_skip (hK2 _ _ (hP _ _ F2 c2 d2 s2))
 ·rw [if_neg h] at hP
  refine df39f h hF.sz hF.e0 hF.e3 hF.e4 hF.e5 h9 hS fun a1 w1 f1 p1 q1 r1 t1 c1 d1 s1=>hK1 _ _ ?_
  have F1:Yb g b3 b4 b5 a1:=⟨f1,p1,q1,r1,t1⟩;refine wp_seq_k ?_;intro K2 hK2;rw [show Z1 21 (Z3 Tryz.f54)=.seq (Z1 0 (Z1 21 (Z3 Tryz.f54))) (.cond (.tmp 197) (Zj (Z2 1 (Z1 21 (Z3 Tryz.f54)))) (.skip)) from rfl];refine wp_seq_k ?_;intro K3 hK3;refine df40 F1.sz F1.e0 F1.e3 F1.e4 F1.e5 c1 d1 s1 fun a2 w2 f2 p2 q2 r2 t2 c2 d2 u2 s2=>hK3 _ _ ?_
  have F2:Yb g b3 b4 b5 a2:=⟨f2,p2,q2,r2,t2⟩;refine wp_cond u2 ?_;exact wp_skip (hK2 _ _ (hP _ _ F2 c2 d2 s2))
theorem dfB22 {p:Int}{o10:Bool}(hL:l.length<=1048576)(hk:k<=800000000)(hE:DfE w0 g n xr)(htm:1<=m.tm/\m.tm<=1073741824)(hF:Yb g b3 b4 b5 a)(h9:a.eval (.tmp 9)=.int .i64 p)(h10:a.eval (.tmp 10)=.bool o10)(hS:FS w0 w g v l b3 b4 b5 n xr k m ve)(hP:∀ a' w',Yb g b3 b4 b5 a'->a'.eval (.tmp 9)=.int .i64 p->a'.eval (.tmp 10)=.bool o10->FS w0 w' g v l b3 b4 b5 n xr (Jl l k n p m.tm m.lt).2 { m with li:=p,lt:=(Jl l k n p m.tm m.lt).1 } ve->(Z2 24 (Z3 Tryz.f54)).wp Tryz.prog Q a' w'):(Z2 22 (Z3 Tryz.f54)).wp Tryz.prog Q a w:=by
 rw [show Z2 22 (Z3 Tryz.f54)=.seq (Z1 22 (Z3 Tryz.f54)) (.seq (Z1 23 (Z3 Tryz.f54)) (Z2 24 (Z3 Tryz.f54))) from rfl];refine wp_seq_k ?_;intro K1 hK1;refine df42 hF.sz hF.e0 hF.e3 hF.e4 hF.e5 h9 h10 hS fun a1 w1 f1 p1 q1 r1 t1 c1 d1 s1=>hK1 _ _ ?_
 have F1:Yb g b3 b4 b5 a1:=⟨f1,p1,q1,r1,t1⟩;refine wp_seq_k ?_;intro K2 hK2;rw [show Z1 23 (Z3 Tryz.f54)=.seq (Z1 0 (Z1 23 (Z3 Tryz.f54))) (.cond (.tmp 214) (Zj (Z2 1 (Z1 23 (Z3 Tryz.f54)))) (.skip)) from rfl];refine wp_seq_k ?_;intro K3 hK3;refine df43 F1.sz F1.e0 F1.e3 F1.e4 F1.e5 c1 d1 s1 fun a2 w2 f2 p2 q2 r2 t2 c2 d2 u2 s2=>hK3 _ _ ?_
 have F2:Yb g b3 b4 b5 a2:=⟨f2,p2,q2,r2,t2⟩;refine wp_cond u2 ?_;unfold Jl at hP;by_cases h:0<p
 ·rw [if_pos h] at hP
  rw [if_pos (by simpa using h)];rw [show Zj (Z2 1 (Z1 23 (Z3 Tryz.f54)))=.seq (Z1 0 (Zj (Z2 1 (Z1 23 (Z3 Tryz.f54))))) (.seq (Z1 1 (Zj (Z2 1 (Z1 23 (Z3 Tryz.f54))))) (.seq (Z1 2 (Zj (Z2 1 (Z1 23 (Z3 Tryz.f54))))) (.cond (.tmp 236) (Zj (Z2 3 (Zj (Z2 1 (Z1 23 (Z3 Tryz.f54)))))) .skip))) from rfl];refine wp_seq_k ?_;intro K4 hK4;refine df44 F2.sz F2.e0 F2.e3 F2.e4 F2.e5 c2 d2 s2 fun a3 w3 f3 p3 q3 r3 t3 c3 d3 s3=>hK4 _ _ ?_
  have F3:Yb g b3 b4 b5 a3:=⟨f3,p3,q3,r3,t3⟩;refine wp_seq_k ?_;intro K5 hK5
  have hmid:∀ a' w' t,Yb g b3 b4 b5 a'->a'.eval (.tmp 9)=.int .i64 p->a'.eval (.tmp 10)=.bool o10->FS w0 w' g v l b3 b4 b5 n xr k { m with li:=p,lt:=t } ve->t=dfLt n p m.tm->K5 a' w':=by
   intro a5 w5 t F5 c5 d5 s5 et
   have ht0:0<=t/\t<=1073741824:=by
    rw [et];unfold dfLt;have:=hE.term p.toNat;split <;> omega
   rw [<-et] at hP;refine hK5 _ _ ?_;refine wp_seq_k ?_;intro K6 hK6;refine df47 hL (by omega) F5.sz F5.e0 F5.e3 F5.e4 F5.e5 c5 d5 s5 fun a6 w6 f6 p6 q6 r6 t6 c6 d6 u6 s6=>hK6 _ _ ?_
   have F6:Yb g b3 b4 b5 a6:=⟨f6,p6,q6,r6,t6⟩;refine wp_cond u6 ?_;by_cases h6:Z5 l k 6=0
   ·rw [if_pos (by simp [h6])]
    rw [if_pos h6] at hP;refine df48 (show 0<=t/\t<=1099511627776 by omega) F6.sz F6.e0 F6.e3 F6.e4 F6.e5 c6 d6 s6 fun a7 w7 f7 p7 q7 r7 t7 c7 d7 s7=>hK2 _ _ ?_
    have F7:Yb g b3 b4 b5 a7:=⟨f7,p7,q7,r7,t7⟩;exact hP _ _ F7 c7 d7 s7
   ·rw [if_neg (by simp [h6])]
    rw [if_neg h6] at hP;exact wp_skip (hK2 _ _ (hP _ _ F6 c6 d6 s6))
  rw [show Z1 1 (Zj (Z2 1 (Z1 23 (Z3 Tryz.f54))))=.seq (Z1 0 (Z1 1 (Zj (Z2 1 (Z1 23 (Z3 Tryz.f54)))))) (.cond (.tmp 222) (Zj (Z2 1 (Z1 1 (Zj (Z2 1 (Z1 23 (Z3 Tryz.f54))))))) .skip) from rfl];refine wp_seq_k ?_;intro K6 hK6;refine df45 hE.vl hE.lg F3.sz F3.e0 F3.e3 F3.e4 F3.e5 c3 d3 s3 fun a4 w4 f4 p4 q4 r4 t4 c4 d4 u4 s4=>hK6 _ _ ?_
  have F4:Yb g b3 b4 b5 a4:=⟨f4,p4,q4,r4,t4⟩;refine wp_cond u4 ?_;by_cases h4:p<=(n.log.length:Int)
  ·rw [if_pos (by simpa using h4)]
   obtain ⟨J,hJ⟩:∃ J:Nat,p=(J:Int)+1:=⟨(p-1).toNat,by omega⟩;have hJl:J<n.log.length:=by omega
   obtain ⟨q,c,hQ⟩:=hE.lq (by omega);rw [hJ] at c4;refine df46 hQ hJl hE.lg F4.sz F4.e0 F4.e3 F4.e4 F4.e5 c4 d4 s4 fun a5 w5 f5 p5 q5 r5 t5 c5 d5 s5=>?_
   rw [<-hJ] at c5;refine hmid _ _ _ ⟨f5,p5,q5,r5,t5⟩ c5 d5 s5 ?_;unfold dfLt;rw [if_pos h4,show p.toNat=J+1 by omega];unfold Jw;rw [if_neg (by omega),show J+1-1=J from rfl,List.getElem?_eq_getElem hJl];rfl
  ·rw [if_neg (by simpa using h4)]
   refine wp_skip (hmid _ _ m.tm F4 c4 d4 s4 ?_);unfold dfLt;rw [if_neg h4]
 ·rw [if_neg h] at hP
  rw [if_neg (by simpa using h)];exact wp_skip (hK2 _ _ (hP _ _ F2 c2 d2 s2))
theorem dfB24 {p:Int}{o10:Bool}(hF:Yb g b3 b4 b5 a)(h9:a.eval (.tmp 9)=.int .i64 p)(h10:a.eval (.tmp 10)=.bool o10)(hS:FS w0 w g v l b3 b4 b5 n xr k m ve)(hR:¬ m.ki=5->∀ a' w' ve',SzD a' 343->a'.eval (.tmp 4)=.pointer (some ⟨b4,0,none⟩)->FR w0 w' g v l b4 k { m with es:=[] } ve'->Q .ret a' w')(hP:m.ki=5->∀ a' w',Yb g b3 b4 b5 a'->a'.eval (.tmp 9)=.int .i64 p->a'.eval (.tmp 10)=.bool o10->FS w0 w' g v l b3 b4 b5 n xr k m ve->(Z2 25 (Z3 Tryz.f54)).wp Tryz.prog Q a' w'):(Z2 24 (Z3 Tryz.f54)).wp Tryz.prog Q a w:=by
 rw [show Z2 24 (Z3 Tryz.f54)=.seq (Z1 24 (Z3 Tryz.f54)) (Z2 25 (Z3 Tryz.f54)) from rfl];refine wp_seq_k ?_;intro K1 hK1;rw [show Z1 24 (Z3 Tryz.f54)=.seq (Z1 0 (Z1 24 (Z3 Tryz.f54))) (.cond (.tmp 244) (Zj (Z2 1 (Z1 24 (Z3 Tryz.f54)))) (.skip)) from rfl];refine wp_seq_k ?_;intro K2 hK2;refine df49 hF.sz hF.e0 hF.e3 hF.e4 hF.e5 h9 h10 hS fun a1 w1 f1 p1 q1 r1 t1 c1 d1 u1 s1=>hK2 _ _ ?_
 have F1:Yb g b3 b4 b5 a1:=⟨f1,p1,q1,r1,t1⟩;refine wp_cond u1 ?_;by_cases h:m.ki=5
 ·rw [if_neg (by simp [h])]
  exact wp_skip (hK1 _ _ (hP h _ _ F1 c1 d1 s1))
 ·rw [if_pos (by simpa using h)]
  rw [show Zj (Z2 1 (Z1 24 (Z3 Tryz.f54)))=.seq (Z1 0 (Zj (Z2 1 (Z1 24 (Z3 Tryz.f54))))) (.seq (Z1 1 (Zj (Z2 1 (Z1 24 (Z3 Tryz.f54))))) .ret) from rfl];refine wp_seq_k ?_;intro K3 hK3;refine df50 F1.sz F1.e0 F1.e3 F1.e4 F1.e5 s1 fun a2 w2 f2 p2 q2 r2 t2 s2=>hK3 _ _ ?_
  have F2:Yb g b3 b4 b5 a2:=⟨f2,p2,q2,r2,t2⟩;refine wp_seq_k ?_;intro K4 hK4;refine df51 F2.sz F2.e4 F2.e5 s2 fun a3 w3 f3 r3 s3=>hK4 _ _ (wp_ret ?_)
  exact hR h _ _ _ f3 r3 s3
def dfAp (l:List Int)(k:Nat)(n:Nd)(ot:Bool)(m:Mg)(P:Nat):FmS:=
 ⟨{ { { m with cm:=min ((P:Int)+((Z5 l k 4:Nat):Int)) 4096 } with tm:=(Z06 l (k+1) ot m.tm).1 } with es:=(J2 l n ot (Z06 l (k+1) ot m.tm).1 (P:Int) ⟨(Y5 l ((Z06 l (k+1) ot m.tm).2+1) (max m.lt 1) (min (Z5 l (Z06 l (k+1) ot m.tm).2 5) (4096-(P:Int)).toNat)).1,max m.lt 1,(Y5 l ((Z06 l (k+1) ot m.tm).2+1) (max m.lt 1) (min (Z5 l (Z06 l (k+1) ot m.tm).2 5) (4096-(P:Int)).toNat)).2.1⟩ (Y5 l ((Z06 l (k+1) ot m.tm).2+1) (max m.lt 1) (min (Z5 l (Z06 l (k+1) ot m.tm).2 5) (4096-(P:Int)).toNat)).1.length).es },
  (J2 l n ot (Z06 l (k+1) ot m.tm).1 (P:Int) ⟨(Y5 l ((Z06 l (k+1) ot m.tm).2+1) (max m.lt 1) (min (Z5 l (Z06 l (k+1) ot m.tm).2 5) (4096-(P:Int)).toNat)).1,max m.lt 1,(Y5 l ((Z06 l (k+1) ot m.tm).2+1) (max m.lt 1) (min (Z5 l (Z06 l (k+1) ot m.tm).2 5) (4096-(P:Int)).toNat)).2.1⟩ (Y5 l ((Z06 l (k+1) ot m.tm).2+1) (max m.lt 1) (min (Z5 l (Z06 l (k+1) ot m.tm).2 5) (4096-(P:Int)).toNat)).1.length).k⟩
theorem dfB25 {P:Nat}{o10:Bool}(hL:l.length<=1048576)(hk:k<=500000000)(hE:DfE w0 g n xr)(hPb:P<=4096)(htm:1<=m.tm/\m.tm<=1073741824)(hlt:0<=m.lt/\m.lt<=1073741824)(hF:Yb g b3 b4 b5 a)(h9:a.eval (.tmp 9)=.int .i64 (P:Int))(h10:a.eval (.tmp 10)=.bool o10)(hS:FS w0 w g v l b3 b4 b5 n xr k m ve)(hR:∀ a' w' ve',SzD a' 343->a'.eval (.tmp 4)=.pointer (some ⟨b4,0,none⟩)->FR w0 w' g v l b4 (dfAp l k n o10 m P).k (dfAp l k n o10 m P).m ve'->Q .ret a' w'):(Z2 25 (Z3 Tryz.f54)).wp Tryz.prog Q a w:=by
 unfold dfAp at hR;have hpq:=Zf l k 4 (by omega);have htk:=dfTm_ok l (k+1) o10 m.tm htm;rw [show Z2 25 (Z3 Tryz.f54)=.seq (Z1 25 (Z3 Tryz.f54)) (.seq (Z1 26 (Z3 Tryz.f54)) (.seq (Z1 27 (Z3 Tryz.f54)) (.seq (Z1 28 (Z3 Tryz.f54)) (.seq (Z1 29 (Z3 Tryz.f54)) (.seq (Z1 30 (Z3 Tryz.f54)) (.seq (Z1 31 (Z3 Tryz.f54)) .ret)))))) from rfl];refine wp_seq_k ?_;intro K1 hK1;refine df52 hL (by omega) (by omega) hF.sz hF.e0 hF.e3 hF.e4 hF.e5 h9 h10 hS fun a1 w1 f1 p1 q1 r1 t1 c1 d1 s1=>hK1 _ _ ?_
 have F1:Yb g b3 b4 b5 a1:=⟨f1,p1,q1,r1,t1⟩;refine wp_seq_k ?_;intro K2 hK2;refine df53 F1.sz F1.e0 F1.e3 F1.e4 F1.e5 c1 d1 s1 fun a2 w2 f2 p2 q2 r2 t2 c2 d2 e2 s2=>hK2 _ _ ?_
 have F2:Yb g b3 b4 b5 a2:=⟨f2,p2,q2,r2,t2⟩;refine wp_seq_k ?_;intro K3 hK3
 have hmid:∀ a' w' t,Yb g b3 b4 b5 a'->a'.eval (.tmp 9)=.int .i64 (P:Int)->a'.eval (.tmp 10)=.bool o10->a'.eval (.tmp 11)=.int .i64 (max m.lt 1)->FS w0 w' g v l b3 b4 b5 n xr t.2 { { m with cm:=min ((P:Int)+((Z5 l k 4:Nat):Int)) 4096 } with tm:=t.1 } ve->t=Z06 l (k+1) o10 m.tm->K3 a' w':=by
  intro a3 w3 t F3 c3 d3 e3 s3 et;rw [<-et] at hR htk;refine hK3 _ _ ?_;refine wp_seq_k ?_;intro K4 hK4;refine df56 hL (by omega) (by omega) (by omega) F3.sz F3.e0 F3.e3 F3.e4 F3.e5 c3 d3 e3 s3 fun a4 w4 ev f4 p4 q4 r4 t4 c4 d4 e4 v4 s4=>hK4 _ _ ?_
  have F4:Yb g b3 b4 b5 a4:=⟨f4,p4,q4,r4,t4⟩;obtain ⟨C,hC⟩:∃ C,C=min (Z5 l t.2 5) (4096-(P:Int)).toNat:=⟨_,rfl⟩;rw [<-hC] at s4 hR;have hp5:=Zf l t.2 5 (by omega);have hC5:C<=5:=by omega
  have hlen:=Jb l (t.2+1) (max m.lt 1) C;have hek:=Z1g l (t.2+1) (max m.lt 1) C;obtain ⟨E,hEe⟩:∃ E,E=Y5 l (t.2+1) (max m.lt 1) C:=⟨_,rfl⟩;rw [<-hEe] at s4 hR hlen hek;refine wp_seq_k ?_;intro K5 hK5;rw [show Z1 29 (Z3 Tryz.f54)=.seq (Z1 0 (Z1 29 (Z3 Tryz.f54))) (Z2 1 (Z1 29 (Z3 Tryz.f54))) from rfl];refine wp_seq_k ?_;intro K6 hK6;refine df57 F4.sz F4.e0 F4.e3 F4.e4 F4.e5 c4 d4 e4 v4 s4 fun a5 w5 f5 p5 q5 r5 t5 c5 d5 e5 v5 i5 s5=>hK6 _ _ ?_
  have F5:Yb g b3 b4 b5 a5:=⟨f5,p5,q5,r5,t5⟩;refine dfLoop (S0:=⟨E.1,max m.lt 1,E.2.1⟩) hL (by show E.2.1<=_;omega) hE (by show E.1.length<=_;omega) hPb ⟨F5,c5,d5,e5,v5,i5⟩ s5 fun a6 w6 F6 v6 s6=>hK5 _ _ ?_
  refine wp_seq_k ?_;intro K7 hK7;refine df70 F6.sz F6.e0 F6.e3 F6.e4 F6.e5 v6 s6 fun a7 w7 f7 p7 q7 r7 t7 s7=>hK7 _ _ ?_
  have F7:Yb g b3 b4 b5 a7:=⟨f7,p7,q7,r7,t7⟩;refine wp_seq_k ?_;intro K8 hK8;refine df71 F7.sz F7.e4 F7.e5 s7 fun a8 w8 f8 r8 s8=>hK8 _ _ (wp_ret ?_)
  exact hR _ _ _ f8 r8 s8
 rw [show Z1 27 (Z3 Tryz.f54)=.seq (Z1 0 (Z1 27 (Z3 Tryz.f54))) (.cond (.tmp 261) (Zj (Z2 1 (Z1 27 (Z3 Tryz.f54)))) (.skip)) from rfl];refine wp_seq_k ?_;intro K4 hK4;unfold Z06 at hmid
 cases o10 with
 | true=>
  refine df54t hL (by omega) F2.sz F2.e0 F2.e3 F2.e4 F2.e5 c2 d2 e2 s2 fun a3 w3 f3 p3 q3 r3 t3 c3 d3 e3 u3 s3=>hK4 _ _ ?_
  have F3:Yb g b3 b4 b5 a3:=⟨f3,p3,q3,r3,t3⟩;refine wp_cond u3 ?_;by_cases h:Z5 l (k+1) 2=0
  ·rw [if_pos (by simp [h])]
   simp only [h,if_true] at hmid;refine df55 (m:={ m with cm:=min ((P:Int)+((Z5 l k 4:Nat):Int)) 4096 }) (show 0<=m.tm/\m.tm<=1099511627776 by omega) F3.sz F3.e0 F3.e3 F3.e4 F3.e5 c3 d3 e3 s3 fun a4 w4 f4 p4 q4 r4 t4 c4 d4 e4 s4=>?_
   have F4:Yb g b3 b4 b5 a4:=⟨f4,p4,q4,r4,t4⟩;exact hmid _ _ _ F4 c4 d4 e4 s4 rfl
  ·rw [if_neg (by simp [h])]
   simp only [h,if_false,if_true] at hmid;exact wp_skip (hmid _ _ (m.tm,k+1+1) F3 c3 d3 e3 s3 rfl)
 | false=>
  refine df54f F2.sz F2.e0 F2.e3 F2.e4 F2.e5 c2 d2 e2 s2 fun a3 w3 f3 p3 q3 r3 t3 c3 d3 e3 u3 s3=>hK4 _ _ ?_
  have F3:Yb g b3 b4 b5 a3:=⟨f3,p3,q3,r3,t3⟩;refine wp_cond u3 ?_;simp only [Bool.false_eq_true,if_false] at hmid;exact wp_skip (hmid _ _ (m.tm,k+1) F3 c3 d3 e3 s3 rfl)
end
def vaB (n:Nd)(m:Mg):Bool:=(m.tm == n.tm) && ((n.vo == 0) || (n.vo == m.fr)) && utd n.log m
theorem vaB_iff (n:Nd)(m:Mg):vaB n m=true↔m.tm=n.tm/\(n.vo=0∨n.vo=m.fr)/\utd n.log m=true:=by
 unfold vaB;simp [and_assoc]
end Go.Proofs.YtmmpoppgabadmaaGreat
