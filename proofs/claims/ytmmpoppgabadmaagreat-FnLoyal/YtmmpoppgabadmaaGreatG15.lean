import Derived.Test.YtmmpoppgabadmaaGreatG14
import Derived.Deep.RegionHeld3
import Derived.Laws.StructEq
set_option linter.unusedVariables false
set_option linter.unusedSimpArgs false
set_option maxRecDepth 100000
set_option maxHeartbeats 16000000
namespace Go.Proofs.YtmmpoppgabadmaaGreat
open Go.RowKit
theorem Z18 (i0 i1 i2 i3 i4 i5 i6 i7 i8 i9 i10 i11:Int)(a12 a13 a14 a15 a16 a17:Option Addr)(cap12 cap13 cap14 cap15 cap16 cap17:Nat)(l12:List Ent)(l13 l14 l15 l16 l17:List Int)(w:World)(k:Nat)(h14:Ix w (.slice a14 l14.length cap14) l14)(h15:Ix w (.slice a15 l15.length cap15) l15)(h16:Ix w (.slice a16 l16.length cap16) l16)(h17:Ix w (.slice a17 l17.length cap17) l17)(k14:k<l14.length)(k15:k<l15.length)(k16:k<l16.length)(k17:k<l17.length)(hk:k<1000):Calls Tryz.prog 82 #[.agg #[.int .i64 i0,.int .i64 i1,.int .i64 i2,.int .i64 i3,.int .i64 i4,.int .i64 i5,.int .i64 i6,.int .i64 i7,.int .i64 i8,.int .i64 i9,.int .i64 i10,.int .i64 i11,.slice a12 l12.length cap12,.slice a13 l13.length cap13,.slice a14 l14.length cap14,.slice a15 l15.length cap15,.slice a16 l16.length cap16,.slice a17 l17.length cap17],.int .i64 ((k:Int)+1)] w fun e w'=>e=.returned (.agg #[.int .i64 l14[k],.int .i64 l15[k],.int .i64 l16[k],.int .i64 l17[k]])/\Below w.heap.size w w':=by
 obtain ⟨m14,x14,y14,ee14,hc14⟩:=h14;injection ee14 with f14 _ g14;subst f14 g14;unfold maxLen at m14;obtain ⟨b14,off14,rfl,hj14⟩:=hc14 k k14;have c14:=hj14 k k14;have z14:=Xb c14;have s14:(k:Int)<(l14.length:Int):=by omega
 obtain ⟨m15,x15,y15,ee15,hc15⟩:=h15;injection ee15 with f15 _ g15;subst f15 g15;unfold maxLen at m15;obtain ⟨b15,off15,rfl,hj15⟩:=hc15 k k15;have c15:=hj15 k k15;have z15:=Xb c15;have s15:(k:Int)<(l15.length:Int):=by omega
 obtain ⟨m16,x16,y16,ee16,hc16⟩:=h16;injection ee16 with f16 _ g16;subst f16 g16;unfold maxLen at m16;obtain ⟨b16,off16,rfl,hj16⟩:=hc16 k k16;have c16:=hj16 k k16;have z16:=Xb c16;have s16:(k:Int)<(l16.length:Int):=by omega
 obtain ⟨m17,x17,y17,ee17,hc17⟩:=h17;injection ee17 with f17 _ g17;subst f17 g17;unfold maxLen at m17;obtain ⟨b17,off17,rfl,hj17⟩:=hc17 k k17;have c17:=hj17 k k17;have z17:=Xb c17;have s17:(k:Int)<(l17.length:Int):=by omega
 clear hc14 hj14 hc15 hj15 hc16 hj16 hc17 hj17;generalize l14[k]=v14 at *;generalize l15[k]=v15 at *;generalize l16[k]=v16 at *;generalize l17[k]=v17 at *;generalize hid:(k:Int)+1=id;have hwr:IntKind.i64.wrap (id-1)=(k:Int):=by rw [IntKind.wrap_i64];omega
 clear hid;have hk0:(0:Int)<=(k:Int):=by omega
 go_enter Tryz.func82,Tryz.ntmps82;go_wp2
 go_region_held3 (fun w'=>w'.cell? ⟨w.heap.size,14,none⟩=some (.slice (some ⟨b14,off14,none⟩) l14.length cap14)/\w'.cell? ⟨w.heap.size,15,none⟩=some (.slice (some ⟨b15,off15,none⟩) l15.length cap15)/\w'.cell? ⟨w.heap.size,16,none⟩=some (.slice (some ⟨b16,off16,none⟩) l16.length cap16)/\w'.cell? ⟨w.heap.size,17,none⟩=some (.slice (some ⟨b17,off17,none⟩) l17.length cap17)/\w'.cell? ⟨b14,off14+k,none⟩=some (.int .i64 v14)/\w'.cell? ⟨b15,off15+k,none⟩=some (.int .i64 v15)/\w'.cell? ⟨b16,off16+k,none⟩=some (.int .i64 v16)/\w'.cell? ⟨b17,off17+k,none⟩=some (.int .i64 v17)) (simp [*,go_sem]) (first | fail)
 go_wp2;exact bodyPost_ret (v:=.agg #[.int .i64 v14,.int .i64 v15,.int .i64 v16,.int .i64 v17]) (by simp [results,Tryz.results82,go_sem]) rfl ⟨rfl,(((Below.refl _ _).alloc (Nat.le_refl _) _).alloc (by simp) _).drew⟩
def Yg (id nid ln nw a b c d:Int):Bool:=if id=nid then a == 0 && (b == 0 && (c == 0 && d == 0)) else inB a 1 (ln+1) && (inB b 0 (a-1) && (inB c 0 nw && inB d 0 nw))
theorem Xh:(Tryz.prog.info? 36).map (·.size)=some 18:=by kernel_rfl
theorem eqProg_run (d:Nat)(x0 x1 x2 x3:Int)(w:World):(Op.equalIn (d+2) 124 (.agg #[.int .i64 x0,.int .i64 x1,.int .i64 x2,.int .i64 x3]) (.agg #[.int .i64 0,.int .i64 0,.int .i64 0,.int .i64 0])).run Tryz.prog w=.ok (x0 == 0 && (x1 == 0 && (x2 == 0 && x3 == 0))) w:=by
 have u3:=Tryz.underlying3;have hS:Tryz.prog.underlying 124=some (.struct (Tryz.prog.fieldsOf 124)):=by kernel_rfl
 rw [run_equalIn_agg w (d+1) 124 _ _ hS (by kernel_rfl)];simp only [Program.fieldsOf,Tryz.underlying124];go_simp;by_cases h1:x0=0 <;> by_cases h2:x1=0 <;> by_cases h3:x2=0 <;> by_cases h4:x3=0 <;> simp [h1,h2,h3,h4]
theorem Z34 (i0 i1 i2 i3 i4 i5 i6 i7 i8 i9 i10 i11:Int)(a12 a13 a14 a15 a16 a17:Option Addr)(cap12 cap13 cap14 cap15 cap16 cap17:Nat)(l12:List Ent)(l13 l14 l15 l16 l17:List Int)(w:World)(k:Nat)(h14:Ix w (.slice a14 l14.length cap14) l14)(h15:Ix w (.slice a15 l15.length cap15) l15)(h16:Ix w (.slice a16 l16.length cap16) l16)(h17:Ix w (.slice a17 l17.length cap17) l17)(k14:k<l14.length)(k15:k<l15.length)(k16:k<l16.length)(k17:k<l17.length)(hk:k<1000)(hll:l12.length<=1048576):Calls Tryz.prog 113 #[.agg #[.int .i64 i0,.int .i64 i1,.int .i64 i2,.int .i64 i3,.int .i64 i4,.int .i64 i5,.int .i64 i6,.int .i64 i7,.int .i64 i8,.int .i64 i9,.int .i64 i10,.int .i64 i11,.slice a12 l12.length cap12,.slice a13 l13.length cap13,.slice a14 l14.length cap14,.slice a15 l15.length cap15,.slice a16 l16.length cap16,.slice a17 l17.length cap17],.int .i64 ((k:Int)+1)] w fun e w'=>e=.returned (.bool (Yg ((k:Int)+1) i0 l12.length i9 l14[k] l15[k] l16[k] l17[k]))/\Below w.heap.size w w':=by
 have hb0:Hid (Below w.heap.size w (w.alloc (.cells #[.int .i64 i0,.int .i64 i1,.int .i64 i2,.int .i64 i3,.int .i64 i4,.int .i64 i5,.int .i64 i6,.int .i64 i7,.int .i64 i8,.int .i64 i9,.int .i64 i10,.int .i64 i11,.slice a12 l12.length cap12,.slice a13 l13.length cap13,.slice a14 l14.length cap14,.slice a15 l15.length cap15,.slice a16 l16.length cap16,.slice a17 l17.length cap17] 36))):=(Below.refl _ _).alloc (Nat.le_refl _) _;have HP:Hid (∀ u:World,Below w.heap.size w u->Calls Tryz.prog 82 #[.agg #[.int .i64 i0,.int .i64 i1,.int .i64 i2,.int .i64 i3,.int .i64 i4,.int .i64 i5,.int .i64 i6,.int .i64 i7,.int .i64 i8,.int .i64 i9,.int .i64 i10,.int .i64 i11,.slice a12 l12.length cap12,.slice a13 l13.length cap13,.slice a14 l14.length cap14,.slice a15 l15.length cap15,.slice a16 l16.length cap16,.slice a17 l17.length cap17],.int .i64 ((k:Int)+1)] u fun e w'=>e=.returned (.agg #[.int .i64 l14[k],.int .i64 l15[k],.int .i64 l16[k],.int .i64 l17[k]])/\Below u.heap.size u w'):=fun u hu=>Z18 i0 i1 i2 i3 i4 i5 i6 i7 i8 i9 i10 i11 a12 a13 a14 a15 a16 a17 cap12 cap13 cap14 cap15 cap16 cap17 l12 l13 l14 l15 l16 l17 u k (h14.below hu) (h15.below hu) (h16.below hu) (h17.below hu) k14 k15 k16 k17 hk
 clear h14 h15 h16 h17;generalize l14[k]=v14 at *;generalize l15[k]=v15 at *;generalize l16[k]=v16 at *;generalize l17[k]=v17 at *;by_cases hid:(k:Int)+1=i0
 ·subst hid
  rw [show Yg ((k:Int)+1) ((k:Int)+1) l12.length i9 v14 v15 v16 v17=(v14 == 0 && (v15 == 0 && (v16 == 0 && v17 == 0))) by simp [Yg]];have hE:=fun u=>eqProg_run 9998 v14 v15 v16 v17 u
  go_enter Tryz.func113,Tryz.ntmps113
  go_wp2_with (first
   |(refine Zw 36 (.tmp 2) rfl ?_;refine Zk rfl 36 (.tmp 2) rfl (w.heap.size) rfl (Blk.new _ _ _) Tryz.underlying36 rfl Xh rfl ?_)
   |(go_at_call 82;refine (HP.out _ hb0.out).mono ?_;rintro e w1 ⟨rfl,hb1⟩;have hz:w.heap.size<w1.heap.size:=(by have:=hb1.size;simp at this;omega);have BA:=(Blk.new w _ _).below hb1 (by simp);have HB:Hid (Below w.heap.size w w1):=hb0.out.trans (hb1.mono (by simp));have cA:=BA.cell;clear hb1))
  go_ret;exact ⟨rfl,HB.out.alloc (by omega) _⟩
 have nid:(((k:Int)+1) == i0)=false:=by simpa using hid
 rw [show Yg ((k:Int)+1) i0 l12.length i9 v14 v15 v16 v17=(inB v14 1 (l12.length+1) && (inB v15 0 (v14-1) && (inB v16 0 i9 && inB v17 0 i9))) by simp [Yg,hid]];clear hid;have g1:True:=trivial;have g2:True:=trivial;have g3:True:=trivial;have g4:True:=trivial;cases q1:inB v14 1 (l12.length+1)
 ·go_enter Tryz.func113,Tryz.ntmps113
  go_wp2_with (first
   |(refine Zw 36 (.tmp 2) rfl ?_;refine Zk rfl 36 (.tmp 2) rfl (w.heap.size) rfl (Blk.new _ _ _) Tryz.underlying36 rfl Xh rfl ?_)
   |(go_at_call 82;refine (HP.out _ hb0.out).mono ?_;rintro e w1 ⟨rfl,hb1⟩;have hz:w.heap.size<w1.heap.size:=(by have:=hb1.size;simp at this;omega);have BA:=(Blk.new w _ _).below hb1 (by simp);have HB:Hid (Below w.heap.size w w1):=hb0.out.trans (hb1.mono (by simp));have cA:=BA.cell;clear hb1)
   |(go_at_call 70;clear g1;refine sw (Ze v14 1 (l12.length+1) _) ?_;rw [q1]))
  go_ret;exact ⟨rfl,HB.out.alloc (by omega) _⟩
 have r1:=(Zr _ _ _).1 q1;cases q2:inB v15 0 (v14-1)
 ·go_enter Tryz.func113,Tryz.ntmps113
  go_wp2_with (first
   |(refine Zw 36 (.tmp 2) rfl ?_;refine Zk rfl 36 (.tmp 2) rfl (w.heap.size) rfl (Blk.new _ _ _) Tryz.underlying36 rfl Xh rfl ?_)
   |(go_at_call 82;refine (HP.out _ hb0.out).mono ?_;rintro e w1 ⟨rfl,hb1⟩;have hz:w.heap.size<w1.heap.size:=(by have:=hb1.size;simp at this;omega);have BA:=(Blk.new w _ _).below hb1 (by simp);have HB:Hid (Below w.heap.size w w1):=hb0.out.trans (hb1.mono (by simp));have cA:=BA.cell;clear hb1)
   |(go_at_call 70;clear g1;refine sw (Ze v14 1 (l12.length+1) _) ?_;rw [q1])
   |(go_at_call 70;clear g2;refine sw (Ze v15 0 (v14-1) _) ?_;rw [q2]))
  go_ret;exact ⟨rfl,HB.out.alloc (by omega) _⟩
 cases q3:inB v16 0 i9
 ·go_enter Tryz.func113,Tryz.ntmps113
  go_wp2_with (first
   |(refine Zw 36 (.tmp 2) rfl ?_;refine Zk rfl 36 (.tmp 2) rfl (w.heap.size) rfl (Blk.new _ _ _) Tryz.underlying36 rfl Xh rfl ?_)
   |(go_at_call 82;refine (HP.out _ hb0.out).mono ?_;rintro e w1 ⟨rfl,hb1⟩;have hz:w.heap.size<w1.heap.size:=(by have:=hb1.size;simp at this;omega);have BA:=(Blk.new w _ _).below hb1 (by simp);have HB:Hid (Below w.heap.size w w1):=hb0.out.trans (hb1.mono (by simp));have cA:=BA.cell;clear hb1)
   |(go_at_call 70;clear g1;refine sw (Ze v14 1 (l12.length+1) _) ?_;rw [q1])
   |(go_at_call 70;clear g2;refine sw (Ze v15 0 (v14-1) _) ?_;rw [q2])
   |(go_at_call 70;clear g3;refine sw (Ze v16 0 (i9) _) ?_;rw [q3]))
  go_ret;exact ⟨rfl,HB.out.alloc (by omega) _⟩
 cases q4:inB v17 0 i9
 ·go_enter Tryz.func113,Tryz.ntmps113
  go_wp2_with (first
   |(refine Zw 36 (.tmp 2) rfl ?_;refine Zk rfl 36 (.tmp 2) rfl (w.heap.size) rfl (Blk.new _ _ _) Tryz.underlying36 rfl Xh rfl ?_)
   |(go_at_call 82;refine (HP.out _ hb0.out).mono ?_;rintro e w1 ⟨rfl,hb1⟩;have hz:w.heap.size<w1.heap.size:=(by have:=hb1.size;simp at this;omega);have BA:=(Blk.new w _ _).below hb1 (by simp);have HB:Hid (Below w.heap.size w w1):=hb0.out.trans (hb1.mono (by simp));have cA:=BA.cell;clear hb1)
   |(go_at_call 70;clear g1;refine sw (Ze v14 1 (l12.length+1) _) ?_;rw [q1])
   |(go_at_call 70;clear g2;refine sw (Ze v15 0 (v14-1) _) ?_;rw [q2])
   |(go_at_call 70;clear g3;refine sw (Ze v16 0 (i9) _) ?_;rw [q3])
   |(go_at_call 70;clear g4;refine sw (Ze v17 0 (i9) _) ?_;rw [q4]))
  go_ret;exact ⟨rfl,HB.out.alloc (by omega) _⟩
 go_enter Tryz.func113,Tryz.ntmps113
 go_wp2_with (first
   |(refine Zw 36 (.tmp 2) rfl ?_;refine Zk rfl 36 (.tmp 2) rfl (w.heap.size) rfl (Blk.new _ _ _) Tryz.underlying36 rfl Xh rfl ?_)
   |(go_at_call 82;refine (HP.out _ hb0.out).mono ?_;rintro e w1 ⟨rfl,hb1⟩;have hz:w.heap.size<w1.heap.size:=(by have:=hb1.size;simp at this;omega);have BA:=(Blk.new w _ _).below hb1 (by simp);have HB:Hid (Below w.heap.size w w1):=hb0.out.trans (hb1.mono (by simp));have cA:=BA.cell;clear hb1)
   |(go_at_call 70;clear g1;refine sw (Ze v14 1 (l12.length+1) _) ?_;rw [q1])
   |(go_at_call 70;clear g2;refine sw (Ze v15 0 (v14-1) _) ?_;rw [q2])
   |(go_at_call 70;clear g3;refine sw (Ze v16 0 (i9) _) ?_;rw [q3])
   |(go_at_call 70;clear g4;refine sw (Ze v17 0 (i9) _) ?_;rw [q4]))
 go_ret;exact ⟨rfl,HB.out.alloc (by omega) _⟩
end Go.Proofs.YtmmpoppgabadmaaGreat
