import Derived.Test.YtmmpoppgabadmaaGreatG01
set_option linter.unusedVariables false
set_option linter.unusedSimpArgs false
set_option maxRecDepth 100000
set_option maxHeartbeats 16000000
namespace Go.Proofs.YtmmpoppgabadmaaGreat
open Go.RowKit
def limV (op:Int):Value:=
 if op=0 then .agg #[.int .i64 0,.int .i64 0,.int .i64 0,.int .i64 0,.int .i64 0,.int .i64 0]
 else .agg #[.int .i64 1,.int .i64 8,.int .i64 1073741824,.int .i64 64,.int .i64 (if op=2∨op=4 then 64 else 0),.int .i64 (if op=4 then 64 else 0)]
theorem limitsOf_any (op:Int)(w:World) :
  Calls Tryz.prog 178 #[.int .i64 op] w fun e w'=>e=.returned (limV op)/\Below w.heap.size w w':=by
 by_cases h0:op=0
 ·subst h0
  have e:limV 0=.agg #[.int .i64 0,.int .i64 0,.int .i64 0,.int .i64 0,.int .i64 0,.int .i64 0]:=rfl;rw [e];go_enter Tryz.func178,Tryz.ntmps178;go_wp2;exact bodyPost_ret (v:=.agg #[.int .i64 0,.int .i64 0,.int .i64 0,.int .i64 0,.int .i64 0,.int .i64 0]) (by simp [results,Tryz.results178,go_sem]) rfl ⟨rfl,(Below.refl _ _).alloc (Nat.le_refl _) _⟩
 by_cases h2:op=2
 ·subst h2
  have e:limV 2=.agg #[.int .i64 1,.int .i64 8,.int .i64 1073741824,.int .i64 64,.int .i64 64,.int .i64 0]:=rfl;rw [e];go_enter Tryz.func178,Tryz.ntmps178;go_wp2;exact bodyPost_ret (v:=.agg #[.int .i64 1,.int .i64 8,.int .i64 1073741824,.int .i64 64,.int .i64 64,.int .i64 0]) (by simp [results,Tryz.results178,go_sem]) rfl ⟨rfl,((Below.refl _ _).alloc (Nat.le_refl _) _).alloc (by simp) _⟩
 by_cases h4:op=4
 ·subst h4
  have e:limV 4=.agg #[.int .i64 1,.int .i64 8,.int .i64 1073741824,.int .i64 64,.int .i64 64,.int .i64 64]:=rfl;rw [e];go_enter Tryz.func178,Tryz.ntmps178;go_wp2;exact bodyPost_ret (v:=.agg #[.int .i64 1,.int .i64 8,.int .i64 1073741824,.int .i64 64,.int .i64 64,.int .i64 64]) (by simp [results,Tryz.results178,go_sem]) rfl ⟨rfl,((Below.refl _ _).alloc (Nat.le_refl _) _).alloc (by simp) _⟩
 ·have e:limV op=.agg #[.int .i64 1,.int .i64 8,.int .i64 1073741824,.int .i64 64,.int .i64 0,.int .i64 0]:=by simp [limV,h0,h2,h4]
  rw [e];have n2:(op == 2)=false:=by simpa using h2
  have n4:(op == 4)=false:=by simpa using h4
  go_enter Tryz.func178,Tryz.ntmps178;go_wp2
  all_goals exact bodyPost_ret (v:=.agg #[.int .i64 1,.int .i64 8,.int .i64 1073741824,.int .i64 64,.int .i64 0,.int .i64 0]) (by simp [results,Tryz.results178,go_sem]) rfl ⟨rfl,((Below.refl _ _).alloc (Nat.le_refl _) _).alloc (by simp) _⟩
def Jk (cl sq op:Int)(k v o:Int):Int:=
 if op<0∨4<op then 1
 else if op=0 then (if cl≠0 then 2 else if sq≠0 then 3 else if k≠0 then 4 else if v≠0 then 5 else if o≠0 then 6 else 0)
 else if cl<1∨8<cl then 2 else if sq<1∨1073741824<sq then 3 else if k<1∨64<k then 4
 else if (if op=2∨op=4 then 64 else 0)<v then 5 else if (if op=4 then 64 else 0)<o then 6 else 0
def implF (cl sq op k v o l0 l1 l2 l3 l4 l5:Int):Int:=
 if inB op 0 4=false then 1 else if inB cl l0 l1=false then 2 else if inB sq l0 l2=false then 3 else if inB k l0 l3=false then 4 else if l4<v then 5 else if l5<o then 6 else 0
theorem Z54 (cl sq op:Int)(k v o:ByteArray)(l0 l1 l2 l3 l4 l5:Int)(hlim:limV op=.agg #[.int .i64 l0,.int .i64 l1,.int .i64 l2,.int .i64 l3,.int .i64 l4,.int .i64 l5])
  (hk:k.size<=maxLen) (hv:v.size<=maxLen) (ho:o.size<=maxLen) (w:World) :
  Calls Tryz.prog 144 #[.agg #[.int .i64 cl,.int .i64 sq,.int .i64 op,.string k,.string v,.string o]] w fun e w'=>
   e=.returned (.int .i64 (implF cl sq op k.size v.size o.size l0 l1 l2 l3 l4 l5))/\Below w.heap.size w w':=by
 unfold maxLen at hk hv ho;have HL:Hid (limV op=.agg #[.int .i64 l0,.int .i64 l1,.int .i64 l2,.int .i64 l3,.int .i64 l4,.int .i64 l5]):=hlim;clear hlim;go_enter Tryz.func144,Tryz.ntmps144
 go_wp2_with (first
  |(go_at_call 178;refine (limitsOf_any _ _).mono ?_;rintro e w1 ⟨rfl,hb⟩;rw [HL.out];obtain ⟨hc,hf⟩:=Jw hb;have hz:w.heap.size<w1.heap.size:=(by have:=hb.size;simp at this;omega))
  |(go_at_call 70;refine (Z2 _ _ _ _).mono ?_;rintro e w' ⟨rfl,rfl⟩))
 all_goals go_ret
 all_goals refine ⟨Y1 ?_,(((Below.refl _ _).alloc (Nat.le_refl _) _).trans (hb.mono (by simp))).alloc (by omega) _⟩
 all_goals (clear hb hc hf HL;go_light;simp_all [implF];try omega)
theorem implF_zero (cl sq k v o:Int)(hk:0<=k)(hv:0<=v)(ho:0<=o):implF cl sq 0 k v o 0 0 0 0 0 0=Jk cl sq 0 k v o:=by
 unfold implF Jk;simp only [Z0h];rw [if_neg (by omega:¬((0:Int)<0∨(4:Int)<0)),if_neg (by omega:¬((0:Int)<0∨(4:Int)<0)),if_pos trivial];exact ifc (by omega) rfl (ifc (by omega) rfl (ifc (by omega) rfl (ifc (by omega) rfl (ifc (by omega) rfl rfl))))
theorem implF_pos (cl sq op k v o:Int)(h:op≠0):implF cl sq op k v o 1 8 1073741824 64 (if op=2∨op=4 then 64 else 0) (if op=4 then 64 else 0)=Jk cl sq op k v o:=by
 unfold implF Jk;simp only [Z0h];rw [if_neg h]
theorem Jf (cl sq op:Int)(k v o:ByteArray)(hk:k.size<=maxLen)(hv:v.size<=maxLen)(ho:o.size<=maxLen)(w:World) :
  Calls Tryz.prog 144 #[.agg #[.int .i64 cl,.int .i64 sq,.int .i64 op,.string k,.string v,.string o]] w fun e w'=>
   e=.returned (.int .i64 (Jk cl sq op k.size v.size o.size))/\Below w.heap.size w w':=by
 by_cases h:op=0
 ·subst h
  rw [<-implF_zero _ _ _ _ _ (Int.natCast_nonneg _) (Int.natCast_nonneg _) (Int.natCast_nonneg _)];exact Z54 cl sq 0 k v o 0 0 0 0 0 0 rfl hk hv ho w
 ·rw [<-implF_pos _ _ _ _ _ _ h]
  exact Z54 cl sq op k v o _ _ _ _ _ _ (by simp [limV,h]) hk hv ho w
theorem Jb (cl sq op:Int)(k v o:ByteArray)(hk:k.size<=maxLen)(hv:v.size<=maxLen)(ho:o.size<=maxLen)(w:World) :
  Calls Tryz.prog 125 #[.agg #[.int .i64 cl,.int .i64 sq,.int .i64 op,.string k,.string v,.string o]] w fun e w'=>
   e=.returned (.int .i64 (Jk cl sq op k.size v.size o.size))/\Below w.heap.size w w':=by
 unfold maxLen at hk hv ho;go_enter Tryz.func125,Tryz.ntmps125;go_wp2
 all_goals go_ret
 all_goals refine ⟨Y1 ?_,(Below.refl _ _).alloc (Nat.le_refl _) _⟩
 all_goals go_light
 all_goals (try (simp only [beq_iff_eq,beq_eq_false_iff_ne,bne_iff_ne,bne_eq_false_iff_eq,ne_eq] at *))
 all_goals first | (exfalso;omega) | (unfold Jk;repeat (first | rfl | rw [if_pos (by omega)] | rw [if_neg (by omega)]))
end Go.Proofs.YtmmpoppgabadmaaGreat
