import Derived.Test.YtmmpoppgabadmaaGreatG04
import Derived.Test.YtmmpoppgabadmaaGreatG07
import Derived.Test.YtmmpoppgabadmaaGreatG10
import Derived.Test.YtmmpoppgabadmaaGreatG16
import Derived.Test.YtmmpoppgabadmaaGreatG23
import Derived.Test.YtmmpoppgabadmaaGreatG12
import Derived.Test.YtmmpoppgabadmaaGreatG22
set_option linter.unusedVariables false
set_option linter.unusedSimpArgs false
set_option maxRecDepth 100000
set_option maxHeartbeats 16000000
namespace Go.Proofs.YtmmpoppgabadmaaGreat
open Go.RowKit
def msB (m:Mg):Int:=Jh m.ki m.fr m.td m.tm m.li m.lt m.cm m.ok m.hi m.es
theorem msB_zero (m:Mg)(h:msB m=0):(1<=m.ki/\m.ki<=6)/\(1<=m.fr/\m.fr<=7)/\m.fr≠m.td/\0<=m.li/\m.li<=4096/\(m.ki=5->m.es.length<=32)/\0<=m.hi/\m.hi<=4096:=by
 unfold msB Jh at h;split at h
 ·simp at h
 rename_i h1;split at h
 ·simp at h
 rename_i h2;split at h
 ·simp at h
 split at h
 ·simp at h
 rename_i h4;split at h
 ·simp at h
 rename_i h5;split at h
 ·simp at h
 rename_i h6;have k1:=(Zk _ _ _).1 (by simpa using h1);have k2:Z06 m.fr m.td=true:=by simpa using h2
 have k4:Z0y m.ki m.tm m.li m.lt=true:=by simpa using h4
 have k5:Xq m.ki m.cm m.ok m.hi=true:=by simpa using h5
 have k6:Xz m.ki m.li m.lt m.tm m.es=true:=by simpa using h6
 have p:=posB_li k4;unfold Z06 at k2;simp only [Bool.and_eq_true,bne_iff_ne] at k2;have f1:=(Zk _ _ _).1 k2.1.1;unfold Xq at k5;simp only [Bool.and_eq_true] at k5;have g1:=(Zk _ _ _).1 k5.2
 have hhi:0<=m.hi/\m.hi<=4096:=by
  have h9:(if m.ki=6/\m.ok=0 then (4096:Int) else 0)<=4096:=by split <;> omega
  omega
 refine ⟨k1,f1,k2.2,p.1,p.2,?_,hhi.1,hhi.2⟩;intro h5';unfold Xz at k6;rw [if_pos h5'] at k6;simp only [Bool.and_eq_true,decide_eq_true_eq] at k6;exact k6.1.1
def mgB (n:Nd)(m:Mg):Bool:=(msB m != 0) || (m.td != n.id) || decide (n.sz<m.fr)
theorem Z5k (r:Rn)(m:Mg):r.message (decide (msB m≠0)) m=if mgB r.n m=true then { r with code:=1 } else if m.ki=1 then r.preAsk m else if m.ki=2 then r.preReply m else if m.ki=3 then r.voteAsk m else if m.ki=4 then r.voteReply m else if m.ki=5 then r.append m else r.appReply m:=by
 unfold Rn.message;have hi:mgB r.n m=true↔decide (msB m≠0)=true∨m.td≠r.n.id∨r.n.sz<m.fr:=by unfold mgB;simp [or_assoc]
 by_cases hc:mgB r.n m=true
 ·rw [if_pos hc,if_pos (hi.1 hc)]
 ·rw [if_neg hc,if_neg (fun h=>hc (hi.2 h))]
theorem l4message_any (b:Nat)(r:Rn)(x:RV)(m:Mg)(ea:Option Addr)(ec:Nat)(w:World)(B:Nat)(h:Z4 w B b r x)(he:Es w (.slice ea m.es.length ec) m.es)(hlo:∀ k,(Value.slice ea m.es.length ec).ownBlock=some k->k<B)(hen:m.es.length<=1048576)(hb:NdB r.n)(hd : -(2^63)<=r.draw)(hD:r.draw<2^63)(hL:x.L = [])(ht0:0<=r.n.tm)(ht1:r.n.tm<=1073741824)(hodd:r.n.sz%2=1)(hgl:r.n.gr.length<=1000)(hLd:r.n.ro=3->LdM r.n r.n.sz.toNat)(hcm0:0<=r.n.cm) :
  Calls Tryz.prog 77 #[.pointer (some ⟨b,0,none⟩),.agg #[.int .i64 m.ki,.int .i64 m.fr,.int .i64 m.td,.int .i64 m.tm,.int .i64 m.li,.int .i64 m.lt,.int .i64 m.cm,.int .i64 m.ok,.int .i64 m.hi,.slice ea m.es.length ec]] w fun e w'=>∃ x',e=.returned (.tuple #[])/\Z4 w' B b (r.message (decide (msB m≠0)) m) x'/\Below B w w':=by
 have HRw:Hid (∀ z,Below w.heap.size w z->Z4 z B b r x):=fun z hz=>h.below hz
 have HEs:Hid (∀ z,Below w.heap.size w z->Es z (.slice ea m.es.length ec) m.es):=fun z hz=>he.below hz
 have hBw:B<=w.heap.size:=Nat.le_trans h.lo (Nat.le_of_lt h.lt);have hbl:=h.lt;have HQ:Hid (r.message (decide (msB m≠0)) m=_):=Z5k r m;generalize r.message (decide (msB m≠0)) m=RP at *;obtain ⟨w1,hw1⟩:∃ z,z=w.alloc (.cells #[.int .i64 m.ki,.int .i64 m.fr,.int .i64 m.td,.int .i64 m.tm,.int .i64 m.li,.int .i64 m.lt,.int .i64 m.cm,.int .i64 m.ok,.int .i64 m.hi,.slice ea m.es.length ec] 43):=⟨_,rfl⟩;have HB1:Hid (Below w.heap.size w w1):=by rw [hw1];exact (Below.refl _ _).alloc (Nat.le_refl _) _
 have BM1:Hid (Blk w1 w.heap.size #[.int .i64 m.ki,.int .i64 m.fr,.int .i64 m.td,.int .i64 m.tm,.int .i64 m.li,.int .i64 m.lt,.int .i64 m.cm,.int .i64 m.ok,.int .i64 m.hi,.slice ea m.es.length ec] 43):=by rw [hw1];exact Blk.new _ _ _
 have hz1:w.heap.size<w1.heap.size:=BM1.out.lt;have HMf:Hid (∀ z,Below w1.heap.size w1 z->Calls Tryz.prog 21 #[.agg #[.int .i64 m.ki,.int .i64 m.fr,.int .i64 m.td,.int .i64 m.tm,.int .i64 m.li,.int .i64 m.lt,.int .i64 m.cm,.int .i64 m.ok,.int .i64 m.hi,.slice ea m.es.length ec]] z fun e w'=>e=.returned (.int .i64 (msB m))/\Below z.heap.size z w'):=fun z hz=>Z3w m.ki m.fr m.td m.tm m.li m.lt m.cm m.ok m.hi _ m.es z (HEs.out z (HB1.out.trans (hz.mono (by omega)))) hen
 have HZ0:Hid (msB m=0->(1<=m.ki/\m.ki<=6)/\(1<=m.fr/\m.fr<=7)/\m.fr≠m.td/\0<=m.li/\m.li<=4096/\(m.ki=5->m.es.length<=32)/\0<=m.hi/\m.hi<=4096):=msB_zero m;have HV:Hid (mgB r.n m=((msB m != 0) || (m.td != r.n.id) || decide (r.n.sz<m.fr))):=rfl;have p2:∀ u:BW w1,u.w.cell? ⟨w.heap.size,2,none⟩=some (.int .i64 m.td):=fun u=>(BM1.out.below u.h hz1).cell 2
 have p1:∀ u:BW w1,u.w.cell? ⟨w.heap.size,1,none⟩=some (.int .i64 m.fr):=fun u=>(BM1.out.below u.h hz1).cell 1
 have q0:∀ u:BW w1,u.w.cell? ⟨b,0,none⟩=some (.int .i64 r.n.id):=fun u=>((HRw.out _ HB1.out).below u.h).blk.cell 0
 have q1:∀ u:BW w1,u.w.cell? ⟨b,1,none⟩=some (.int .i64 r.n.sz):=fun u=>((HRw.out _ HB1.out).below u.h).blk.cell 1
 have pn:∀ u:BW w1,Sem.run Tryz.prog (loadVar 43 ⟨w.heap.size,0,none⟩) u.w=.ok (.agg #[.int .i64 m.ki,.int .i64 m.fr,.int .i64 m.td,.int .i64 m.tm,.int .i64 m.li,.int .i64 m.lt,.int .i64 m.cm,.int .i64 m.ok,.int .i64 m.hi,.slice ea m.es.length ec]) u.w:=fun u=>Ja (BM1.out.below u.h hz1) 43 Tryz.underlying43 rfl (by rw [Zy];rfl)
 have NE1:Nonempty (BW w1):=⟨⟨w1,Below.refl _ _⟩⟩;generalize hMB:msB m=MB at *;clear h he hMB;go_enter Tryz.func77,Tryz.ntmps77
 go_upto_region 1 with fail
 rw [<-hw1];clear hw1
 go_cut [26] (fun s wx=>s=.bool (mgB r.n m)/\Below w1.heap.size w1 wx)
 case first=>
  generalize mgB r.n m=VB at *;cases hc1:(MB != 0)
  ·cases hc2:(m.td != r.n.id)
   ·rw [hc1,hc2] at HV
    refine wp_region_quiet (C:=fun w'=>∃ u:BW w1,w'=u.w) (by kernel_rfl) (by kernel_rfl) ⟨⟨_,(Below.refl _ _).drew⟩,rfl⟩ ?_;rw [List.toList_toArray]
    repeat (first | (go_big_quiet_want;refine J1 (W:=w1) 43 (.tmp 3) rfl rfl pn ?_;go_big_quiet_on;simp only [Act.put,List.setIfInBounds_toArray,List.set_cons_zero,List.set_cons_succ]) | go_big_quiet_step ((go_at_call 21;refine (HMf.out _ (BW.h _)).mono ?_;rintro e w9 ⟨rfl,hb9⟩;exact ⟨rfl,⟨⟨w9,(BW.h _).trans (hb9.mono (BW.h _).size)⟩,rfl⟩⟩)))
    refine wpQuiet_nil ?_;intro w6 hww6;have hb_w6:Below w1.heap.size w1 w6:=(by obtain ⟨u,rfl⟩:=hww6;exact u.h);clear hww6
    go_wp2_with fail
    go_meet;exact ⟨by rw [HV.out];rfl,hb_w6⟩
   ·rw [hc1,hc2] at HV
    refine wp_region_quiet (C:=fun w'=>∃ u:BW w1,w'=u.w) (by kernel_rfl) (by kernel_rfl) ⟨⟨_,(Below.refl _ _).drew⟩,rfl⟩ ?_;rw [List.toList_toArray]
    repeat (first | (go_big_quiet_want;refine J1 (W:=w1) 43 (.tmp 3) rfl rfl pn ?_;go_big_quiet_on;simp only [Act.put,List.setIfInBounds_toArray,List.set_cons_zero,List.set_cons_succ]) | go_big_quiet_step ((go_at_call 21;refine (HMf.out _ (BW.h _)).mono ?_;rintro e w9 ⟨rfl,hb9⟩;exact ⟨rfl,⟨⟨w9,(BW.h _).trans (hb9.mono (BW.h _).size)⟩,rfl⟩⟩)))
    refine wpQuiet_nil ?_;intro w6 hww6;have hb_w6:Below w1.heap.size w1 w6:=(by obtain ⟨u,rfl⟩:=hww6;exact u.h);clear hww6
    go_wp2_with fail
    go_meet;exact ⟨by rw [HV.out];rfl,hb_w6⟩
  ·rw [hc1] at HV
   refine wp_region_quiet (C:=fun w'=>∃ u:BW w1,w'=u.w) (by kernel_rfl) (by kernel_rfl) ⟨⟨_,(Below.refl _ _).drew⟩,rfl⟩ ?_;rw [List.toList_toArray]
   repeat (first | (go_big_quiet_want;refine J1 (W:=w1) 43 (.tmp 3) rfl rfl pn ?_;go_big_quiet_on;simp only [Act.put,List.setIfInBounds_toArray,List.set_cons_zero,List.set_cons_succ]) | go_big_quiet_step ((go_at_call 21;refine (HMf.out _ (BW.h _)).mono ?_;rintro e w9 ⟨rfl,hb9⟩;exact ⟨rfl,⟨⟨w9,(BW.h _).trans (hb9.mono (BW.h _).size)⟩,rfl⟩⟩)))
   refine wpQuiet_nil ?_;intro w6 hww6;have hb_w6:Below w1.heap.size w1 w6:=(by obtain ⟨u,rfl⟩:=hww6;exact u.h);clear hww6
   go_wp2_with fail
   go_meet;exact ⟨by rw [HV.out];rfl,hb_w6⟩
 case rest=>
  obtain ⟨rfl,hB5⟩:=hcut;obtain ⟨w5,hw5⟩:∃ z,z=wc:=⟨_,rfl⟩;rw [<-hw5] at hB5;subst hw5;have HB5:Hid (Below w.heap.size w w5):=HB1.out.trans (hB5.mono (by omega));have BM5:Hid (Blk w5 w.heap.size _ 43):=BM1.out.below hB5 hz1;have HR5:Hid (Z4 w5 B b r x):=HRw.out _ HB5.out;clear hB5 p2 p1 q0 q1 pn NE1 HMf HB1 BM1 hz1 HRw
  go_upto_if 26 with fail
  by_cases hv:mgB r.n m=true
  ·have HF:Hid (Z4 (w5.setCell ⟨b,19,none⟩ (.int .i64 1)) B b RP x/\Below B w (w5.setCell ⟨b,19,none⟩ (.int .i64 1))):=by
    unfold Hid;rw [HQ.out,if_pos hv];exact ⟨HR5.out.set 19 _ rfl rfl rfl rfl rfl rfl rfl rfl,(HB5.out.mono hBw).trans (HR5.out.setB 19 _)⟩
   have k19:w5.cell? ⟨b,19,none⟩=some (.int .i64 r.code):=HR5.out.blk.cell 19;have f19:w5.frozen? ⟨b,19,none⟩=false:=HR5.out.blk.free 19;rw [hv];clear HQ hv
   go_wp2_with (fail)
   (try simp only [Exit.inBlock,Exit.then])
   first
    | exact bodyPost_ret (results_none rfl _ _ _) rfl ⟨x,rfl,HF.out.1,HF.out.2⟩
    | exact bodyPost_ret (results_none rfl _ _ _) rfl ⟨rfl,⟨x,HF.out.1⟩,HF.out.2⟩
  have hvf:mgB r.n m=false:=by simpa using hv
  have HQ2:=HQ.out.trans (if_neg hv)
  have hM0:MB=0:=by
   have h9:=HV.out;rw [hvf] at h9;have h8:=h9.symm;simp only [Bool.or_eq_false_iff] at h8;simpa using h8.1.1
  have hid:m.td=r.n.id/\¬ r.n.sz<m.fr:=by
   have h9:=HV.out;rw [hvf] at h9;have h8:=h9.symm;simp only [Bool.or_eq_false_iff] at h8;exact ⟨by simpa using h8.1.2,by simpa using h8.2⟩
  have HZ:Hid _:=HZ0.out hM0;have HId:Hid (m.td=r.n.id/\¬ r.n.sz<m.fr):=hid;obtain ⟨J,hJ⟩:∃ J:Nat,m.fr=(J:Int)+1:=⟨(m.fr-1).toNat,by have:=HZ.out.2.1;omega⟩;have HJ:Hid (m.fr=(J:Int)+1):=hJ;have hJz:(J:Int)+1<=r.n.sz:=by have:=HId.out.2;omega
  have hJi:(J:Int)+1≠r.n.id:=by have h1:=HZ.out.2.2.1;have h2:=HId.out.1;omega
  have n0:w5.cell? ⟨w.heap.size,0,none⟩=some (.int .i64 m.ki):=BM5.out.cell 0;rw [hvf];clear HQ hv hvf HV hM0 hid HZ0 hJ;by_cases h1:m.ki=1
  ·have HH:Hid _:=l4preAsk_any b r x m ea m.es.length ec w5 B HR5.out hb (by rw [hL];simp)
   have HF:Hid (RP=r.preAsk m):=HQ2.trans (if_pos h1);have b1:(m.ki == 1)=true:=by simpa using h1
   have G2:Hid True:=trivial;clear HQ2 h1
   go_wp2_with (first
    |(have hBA:=G2;refine Z7 43 (.tmp 3) rfl ?_;clear hBA;refine Z3 rfl 43 (.tmp 3) rfl w.heap.size rfl BM5.out Tryz.underlying43 rfl Zy rfl ?_;clear G2)
    |(go_at_call 119;refine Calls.mono HH.out ?_;rintro e wz ⟨x9,rfl,hRz,hbz⟩;have HRz:Hid _:=hRz;have HBz:Hid (Below B w wz):=(HB5.out.mono hBw).trans hbz;clear hRz hbz))
   (try simp only [Exit.inBlock,Exit.then])
   exact bodyPost_end (results_none rfl _ _ _) rfl ⟨x9,rfl,by rw [HF.out];exact HRz.out,HBz.out⟩
  by_cases h2:m.ki=2
  ·have HH:Hid _:=Z5q b r x m ea m.es.length ec w5 B HR5.out hb hd hD (by rw [hL];simp) ht0 ht1 hodd hgl
   have HF:Hid (RP=r.preReply m):=(HQ2.trans (if_neg h1)).trans (if_pos h2);have b1:(m.ki == 1)=false:=by simpa using h1
   have b2:(m.ki == 2)=true:=by simpa using h2
   have G2:Hid True:=trivial;clear HQ2 h1 h2
   go_wp2_with (first
    |(have hBA:=G2;refine Z7 43 (.tmp 3) rfl ?_;clear hBA;refine Z3 rfl 43 (.tmp 3) rfl w.heap.size rfl BM5.out Tryz.underlying43 rfl Zy rfl ?_;clear G2)
    |(go_at_call 120;refine Calls.mono HH.out ?_;rintro e wz ⟨x9,rfl,hRz,hbz⟩;have HRz:Hid _:=hRz;have HBz:Hid (Below B w wz):=(HB5.out.mono hBw).trans hbz;clear hRz hbz))
   (try simp only [Exit.inBlock,Exit.then])
   exact bodyPost_end (results_none rfl _ _ _) rfl ⟨x9,rfl,by rw [HF.out];exact HRz.out,HBz.out⟩
  by_cases h3:m.ki=3
  ·have HH:Hid _:=l4voteAsk_any b r x m ea m.es.length ec w5 B HR5.out hb hd hD (by rw [hL];simp)
   have HF:Hid (RP=r.voteAsk m):=((HQ2.trans (if_neg h1)).trans (if_neg h2)).trans (if_pos h3);have b1:(m.ki == 1)=false:=by simpa using h1
   have b2:(m.ki == 2)=false:=by simpa using h2
   have b3:(m.ki == 3)=true:=by simpa using h3
   have G2:Hid True:=trivial;clear HQ2 h1 h2 h3
   go_wp2_with (first
    |(have hBA:=G2;refine Z7 43 (.tmp 3) rfl ?_;clear hBA;refine Z3 rfl 43 (.tmp 3) rfl w.heap.size rfl BM5.out Tryz.underlying43 rfl Zy rfl ?_;clear G2)
    |(go_at_call 121;refine Calls.mono HH.out ?_;rintro e wz ⟨x9,rfl,hRz,hbz⟩;have HRz:Hid _:=hRz;have HBz:Hid (Below B w wz):=(HB5.out.mono hBw).trans hbz;clear hRz hbz))
   (try simp only [Exit.inBlock,Exit.then])
   exact bodyPost_end (results_none rfl _ _ _) rfl ⟨x9,rfl,by rw [HF.out];exact HRz.out,HBz.out⟩
  by_cases h4:m.ki=4
  ·have HH:Hid _:=Z4s b r x m ea m.es.length ec w5 B HR5.out hb hd hD hL hodd hgl
   have HF:Hid (RP=r.voteReply m):=(((HQ2.trans (if_neg h1)).trans (if_neg h2)).trans (if_neg h3)).trans (if_pos h4);have b1:(m.ki == 1)=false:=by simpa using h1
   have b2:(m.ki == 2)=false:=by simpa using h2
   have b3:(m.ki == 3)=false:=by simpa using h3
   have b4:(m.ki == 4)=true:=by simpa using h4
   have G2:Hid True:=trivial;clear HQ2 h1 h2 h3 h4
   go_wp2_with (first
    |(have hBA:=G2;refine Z7 43 (.tmp 3) rfl ?_;clear hBA;refine Z3 rfl 43 (.tmp 3) rfl w.heap.size rfl BM5.out Tryz.underlying43 rfl Zy rfl ?_;clear G2)
    |(go_at_call 122;refine Calls.mono HH.out ?_;rintro e wz ⟨x9,rfl,hRz,hbz⟩;have HRz:Hid _:=hRz;have HBz:Hid (Below B w wz):=(HB5.out.mono hBw).trans hbz;clear hRz hbz))
   (try simp only [Exit.inBlock,Exit.then])
   exact bodyPost_end (results_none rfl _ _ _) rfl ⟨x9,rfl,by rw [HF.out];exact HRz.out,HBz.out⟩
  by_cases h5:m.ki=5
  ·have HH:Hid _:=l4append_any b r x m ea ec w5 B HR5.out (HEs.out _ HB5.out) hlo hb hd hD (by rw [hL];simp) HZ.out.2.2.2.1 HZ.out.2.2.2.2.1 (HZ.out.2.2.2.2.2.1 (by omega))
   have HF:Hid (RP=r.append m):=((((HQ2.trans (if_neg h1)).trans (if_neg h2)).trans (if_neg h3)).trans (if_neg h4)).trans (if_pos h5);have b1:(m.ki == 1)=false:=by simpa using h1
   have b2:(m.ki == 2)=false:=by simpa using h2
   have b3:(m.ki == 3)=false:=by simpa using h3
   have b4:(m.ki == 4)=false:=by simpa using h4
   have b5:(m.ki == 5)=true:=by simpa using h5
   have G2:Hid True:=trivial;clear HQ2 h1 h2 h3 h4 h5
   go_wp2_with (first
    |(have hBA:=G2;refine Z7 43 (.tmp 3) rfl ?_;clear hBA;refine Z3 rfl 43 (.tmp 3) rfl w.heap.size rfl BM5.out Tryz.underlying43 rfl Zy rfl ?_;clear G2)
    |(go_at_call 123;refine Calls.mono HH.out ?_;rintro e wz ⟨x9,rfl,hRz,hbz⟩;have HRz:Hid _:=hRz;have HBz:Hid (Below B w wz):=(HB5.out.mono hBw).trans hbz;clear hRz hbz))
   (try simp only [Exit.inBlock,Exit.then])
   exact bodyPost_end (results_none rfl _ _ _) rfl ⟨x9,rfl,by rw [HF.out];exact HRz.out,HBz.out⟩
  have HH:Hid _:=Z3q b r x m J ea m.es.length ec w5 B HR5.out hb hd hD (by rw [hL];simp) hodd HJ.out (by have:=HJ.out;omega) (by have:=HJ.out;have:=HZ.out.2.2.1;omega) hLd hcm0 HZ.out.2.2.2.1 HZ.out.2.2.2.2.1 HZ.out.2.2.2.2.2.2.1 HZ.out.2.2.2.2.2.2.2;have HF:Hid (RP=r.appReply m):=(((((HQ2.trans (if_neg h1)).trans (if_neg h2)).trans (if_neg h3)).trans (if_neg h4)).trans (if_neg h5));have b1:(m.ki == 1)=false:=by simpa using h1
  have b2:(m.ki == 2)=false:=by simpa using h2
  have b3:(m.ki == 3)=false:=by simpa using h3
  have b4:(m.ki == 4)=false:=by simpa using h4
  have b5:(m.ki == 5)=false:=by simpa using h5
  have G2:Hid True:=trivial;clear HQ2 h1 h2 h3 h4 h5
  go_wp2_with (first
   |(have hBA:=G2;refine Z7 43 (.tmp 3) rfl ?_;clear hBA;refine Z3 rfl 43 (.tmp 3) rfl w.heap.size rfl BM5.out Tryz.underlying43 rfl Zy rfl ?_;clear G2)
   |(go_at_call 124;refine Calls.mono HH.out ?_;rintro e wz ⟨x9,rfl,hRz,hbz⟩;have HRz:Hid _:=hRz;have HBz:Hid (Below B w wz):=(HB5.out.mono hBw).trans hbz;clear hRz hbz))
  (try simp only [Exit.inBlock,Exit.then])
  exact bodyPost_end (results_none rfl _ _ _) rfl ⟨x9,rfl,by rw [HF.out];exact HRz.out,HBz.out⟩
theorem sizeCm:(Tryz.prog.info? 44).map (·.size)=some 6:=by kernel_rfl
theorem sizeSa:(Tryz.prog.info? 39).map (·.size)=some 21:=by kernel_rfl
theorem Y5 {w:World}{b:Nat}{C:Array Value}{t:TypeId}(h:Blk w b C t)(off:Nat)(cs:List Value)(hcs:(C.toList.drop off).take cs.length=cs):w.rangeAt b off cs:=fun j v hv=>by
 have hj:j<cs.length:=(List.getElem?_eq_some_iff.1 hv).1;rw [h.cell (off+j),<-hv,<-hcs,List.getElem?_take,if_pos hj,List.getElem?_drop];simp
def stepP (n:Nd)(dr ki:Int)(m:Mg)(cl sq op:Int)(k v o:ByteArray):Rn:=
 let r:Rn:=⟨n,[],0,0,dr⟩
 if ki=1 then r.tick else if ki=2 then r.message (decide (msB m≠0)) m else if ki=3 then r.propose (decide (Jk cl sq op k.size v.size o.size≠0∨op=0)) cl sq op k v o else { r with code:=8 }
def saC (r:Rn)(x:RV):Array Value:=#[.int .i64 r.code,.int .i64 r.drew,.int .i64 r.n.id,.int .i64 r.n.sz,.int .i64 r.n.el,.int .i64 r.n.bt,.int .i64 r.n.tm,.int .i64 r.n.vo,.int .i64 r.n.ro,.int .i64 r.n.ld,.int .i64 r.n.cm,.int .i64 r.n.nw,.int .i64 r.n.dl,.int .i64 r.n.hd,x.vl,x.vg,x.vn,x.vm,x.vs,x.vt,x.vo]
theorem Z4.keepB {w w':World}{B b:Nat}{r:Rn}{x:RV}(h:Z4 w B b r x)(hk:∀ k,B<=k->w'.heap[k]? = w.heap[k]?):Z4 w' B b r x:=by
 have hg:∀ {α:Type} {cs:α->List Value} {m:Nat} {T:TypeId} {v:Value} {l:List α},Z6 cs m T w B v l->Z6 cs m T w' B v l:=fun ho=>ho.block fun k e=>hk k (ho.lts k e).1
 have he:∀ {v:Value} {l:List Ent},Zd w B v l->Zd w' B v l:=fun ho=>ho.block fun k e=>hk k (World.ownsRow.lt ho.2 k e).1
 exact ⟨h.blk.keep (hk b h.lo),h.lo,he h.log,hg h.gr,hg h.nx,hg h.mt,hg h.se,hg h.st,hg h.out,h.outC,fun p hp=>he (h.ents p hp),h.ap⟩
theorem Z4.le {w:World}{B B' b:Nat}{r:Rn}{x:RV}(h:Z4 w B b r x)(hB:B'<=B):Z4 w B' b r x:=
 ⟨h.blk,Nat.le_trans hB h.lo,h.log.le hB,h.gr.le hB,h.nx.le hB,h.mt.le hB,h.se.le hB,h.st.le hB,h.out.le hB,h.outC,fun p hp=>(h.ents p hp).le hB,h.ap⟩
theorem sizeRn:(Tryz.prog.info? 112).map (·.size)=some 22:=by kernel_rfl
structure CpU where
 v12:Value
 v13:Value
 v14:Value
 v15:Value
 v16:Value
 v17:Value
structure CpAt (w:World) (B:Nat) (n:Nd) (u:CpU):Prop where
 log:Zd w B u.v12 n.log
 gr:Z6 inC 1 3 w B u.v13 n.gr
 nx:Z6 inC 1 3 w B u.v14 n.nx
 mt:Z6 inC 1 3 w B u.v15 n.mt
 se:Z6 inC 1 3 w B u.v16 n.se
 st:Z6 inC 1 3 w B u.v17 n.st
 ap:[u.v13,u.v14,u.v15,u.v16,u.v17].Pairwise Zz
theorem CpAt.below {w w':World}{B:Nat}{n:Nd}{u:CpU}(h:CpAt w B n u)(hb:Below w.heap.size w w'):CpAt w' B n u:=⟨h.log.below hb,h.gr.below hb,h.nx.below hb,h.mt.below hb,h.se.below hb,h.st.below hb,h.ap⟩
theorem CpAt.row {w:World}{B p:Nat}{n:Nd}{u:CpU}{C:Array Value}(h:CpAt w B n u)(hb:Blk w p C 112)(C':Array Value):CpAt (w.setRow p C') B n u:=by
 have hk:∀ k,k≠p->(w.setRow p C').heap[k]? = w.heap[k]?:=fun k hk=>setRow_other w p k C' hk
 have hg:∀ {v:Value} {l:List Int},Z6 inC 1 3 w B v l->Z6 inC 1 3 (w.setRow p C') B v l:=fun ho=>ho.block fun k e=>hk k (Zm ho hb (by decide) k e)
 exact ⟨h.log.block fun k e=>hk k (Yp h.log hb (by decide) k e),hg h.gr,hg h.nx,hg h.mt,hg h.se,hg h.st,h.ap⟩
theorem CpAt.one {w:World}{B:Nat}{n:Nd}{u:CpU}(h:CpAt w B n u)(dr:Int):(#[.int .i64 n.id,.int .i64 n.sz,.int .i64 n.el,.int .i64 n.bt,.int .i64 n.tm,.int .i64 n.vo,.int .i64 n.ro,.int .i64 n.ld,.int .i64 n.cm,.int .i64 n.nw,.int .i64 n.dl,.int .i64 n.hd,u.v12,u.v13,u.v14,u.v15,u.v16,u.v17,.slice none 0 0,.int .i64 0,.int .i64 0,.int .i64 dr]).all (·.oneCell')=true:=by
 obtain ⟨x12,y12,e12⟩:=h.log.shape;obtain ⟨x13,y13,e13⟩:=h.gr.shape;obtain ⟨x14,y14,e14⟩:=h.nx.shape;obtain ⟨x15,y15,e15⟩:=h.mt.shape;obtain ⟨x16,y16,e16⟩:=h.se.shape;obtain ⟨x17,y17,e17⟩:=h.st.shape;simp [Value.oneCell',e12,e13,e14,e15,e16,e17]
theorem CpAt.run {w:World}{B p:Nat}{n:Nd}{u:CpU}(h:CpAt w B n u)(dr:Int)(hp:B<=p)(hb:Blk w p #[.int .i64 n.id,.int .i64 n.sz,.int .i64 n.el,.int .i64 n.bt,.int .i64 n.tm,.int .i64 n.vo,.int .i64 n.ro,.int .i64 n.ld,.int .i64 n.cm,.int .i64 n.nw,.int .i64 n.dl,.int .i64 n.hd,u.v12,u.v13,u.v14,u.v15,u.v16,u.v17,.slice none 0 0,.int .i64 0,.int .i64 0,.int .i64 dr] 112):Z4 w B p ⟨n,[],0,0,dr⟩ ⟨u.v12,u.v13,u.v14,u.v15,u.v16,u.v17,.slice none 0 0,[]⟩:=
 ⟨hb,hp,h.log,h.gr,h.nx,h.mt,h.se,h.st,Z6.nil _ _ _ _ _,rfl,fun p hp=>(by cases hp),h.ap⟩
theorem l4step_any (n:Nd)(m:Mg)(ki dr cl sq op:Int)(k v o:ByteArray)(a12 a13 a14 a15 a16 a17 ea:Option Addr)(c12 c13 c14 c15 c16 c17 ec:Nat)(w:World)(h:NdAt w n (.slice a12 n.log.length c12) (.slice a13 n.gr.length c13) (.slice a14 n.nx.length c14) (.slice a15 n.mt.length c15) (.slice a16 n.se.length c16) (.slice a17 n.st.length c17))(hl:n.log.length<=4096)(l13:n.gr.length<=100000)(l14:n.nx.length<=100000)(l15:n.mt.length<=100000)(l16:n.se.length<=100000)(l17:n.st.length<=100000)(he:Es w (.slice ea m.es.length ec) m.es)(hlo:∀ k,(Value.slice ea m.es.length ec).ownBlock=some k->k<w.heap.size)(hen:m.es.length<=1048576)(hb:NdB n)(hd : -(2^63)<=dr)(hD:dr<2^63)(ht0:0<=n.tm)(ht1:n.tm<=1073741824)(hodd:n.sz%2=1)(hgl:n.gr.length<=1000)(hLm:n.ro=3->LdM n n.sz.toNat)(hLt:n.ro=3->LdT n n.sz.toNat)(hcm0:0<=n.cm)(hk:k.size<=maxLen)(hv:v.size<=maxLen)(ho:o.size<=maxLen) :
  Calls Tryz.prog 32 #[.agg #[.int .i64 n.id,.int .i64 n.sz,.int .i64 n.el,.int .i64 n.bt,.int .i64 n.tm,.int .i64 n.vo,.int .i64 n.ro,.int .i64 n.ld,.int .i64 n.cm,.int .i64 n.nw,.int .i64 n.dl,.int .i64 n.hd,.slice a12 n.log.length c12,.slice a13 n.gr.length c13,.slice a14 n.nx.length c14,.slice a15 n.mt.length c15,.slice a16 n.se.length c16,.slice a17 n.st.length c17],.agg #[.int .i64 ki,.int .i64 dr,.int .i64 m.ki,.int .i64 m.fr,.int .i64 m.td,.int .i64 m.tm,.int .i64 m.li,.int .i64 m.lt,.int .i64 m.cm,.int .i64 m.ok,.int .i64 m.hi,.slice ea m.es.length ec,.int .i64 cl,.int .i64 sq,.int .i64 op,.string k,.string v,.string o]] w fun e w'=>∃(b:Nat) (X:RV),e=.returned (.agg (saC (stepP n dr ki m cl sq op k v o) X))/\Z4 w' w.heap.size b (stepP n dr ki m cl sq op k v o) X/\Below w.heap.size w w':=by
 generalize hRP:stepP n dr ki m cl sq op k v o=RP;have HRP0:Hid (stepP n dr ki m cl sq op k v o=RP):=hRP;clear hRP;obtain ⟨w0,hw0⟩:∃ z,z=((w.alloc (.cells #[.int .i64 n.id,.int .i64 n.sz,.int .i64 n.el,.int .i64 n.bt,.int .i64 n.tm,.int .i64 n.vo,.int .i64 n.ro,.int .i64 n.ld,.int .i64 n.cm,.int .i64 n.nw,.int .i64 n.dl,.int .i64 n.hd,.slice a12 n.log.length c12,.slice a13 n.gr.length c13,.slice a14 n.nx.length c14,.slice a15 n.mt.length c15,.slice a16 n.se.length c16,.slice a17 n.st.length c17] 36)).alloc (.cells #[.int .i64 ki,.int .i64 dr,.int .i64 m.ki,.int .i64 m.fr,.int .i64 m.td,.int .i64 m.tm,.int .i64 m.li,.int .i64 m.lt,.int .i64 m.cm,.int .i64 m.ok,.int .i64 m.hi,.slice ea m.es.length ec,.int .i64 cl,.int .i64 sq,.int .i64 op,.string k,.string v,.string o] 46)).alloc (.cells #[.int .i64 0,.int .i64 0,.int .i64 0,.int .i64 0,.int .i64 0,.int .i64 0,.int .i64 0,.int .i64 0,.int .i64 0,.int .i64 0,.int .i64 0,.int .i64 0,.int .i64 0,.int .i64 0,.slice none 0 0,.slice none 0 0,.slice none 0 0,.slice none 0 0,.slice none 0 0,.slice none 0 0,.slice none 0 0] 39):=⟨_,rfl⟩;go_enter Tryz.func32,Tryz.ntmps32
 go_upto_region 1 with fail
 rw [<-hw0];have HB0:Hid (Below w.heap.size w w0):=by rw [hw0];exact (((Below.refl _ _).alloc (Nat.le_refl _) _).alloc (by simp) _).alloc (by simp;omega) _
 have BN0:Hid (Blk w0 w.heap.size #[.int .i64 n.id,.int .i64 n.sz,.int .i64 n.el,.int .i64 n.bt,.int .i64 n.tm,.int .i64 n.vo,.int .i64 n.ro,.int .i64 n.ld,.int .i64 n.cm,.int .i64 n.nw,.int .i64 n.dl,.int .i64 n.hd,.slice a12 n.log.length c12,.slice a13 n.gr.length c13,.slice a14 n.nx.length c14,.slice a15 n.mt.length c15,.slice a16 n.se.length c16,.slice a17 n.st.length c17] 36):=by rw [hw0];exact ((Blk.new _ _ _).alloc _).alloc _
 have BI0:Hid (Blk w0 (w.heap.size+1) #[.int .i64 ki,.int .i64 dr,.int .i64 m.ki,.int .i64 m.fr,.int .i64 m.td,.int .i64 m.tm,.int .i64 m.li,.int .i64 m.lt,.int .i64 m.cm,.int .i64 m.ok,.int .i64 m.hi,.slice ea m.es.length ec,.int .i64 cl,.int .i64 sq,.int .i64 op,.string k,.string v,.string o] 46):=by rw [hw0];exact (Blk.new' _ _ _ (by simp)).alloc _
 have BS0:Hid (Blk w0 (w.heap.size+2) #[.int .i64 0,.int .i64 0,.int .i64 0,.int .i64 0,.int .i64 0,.int .i64 0,.int .i64 0,.int .i64 0,.int .i64 0,.int .i64 0,.int .i64 0,.int .i64 0,.int .i64 0,.int .i64 0,.slice none 0 0,.slice none 0 0,.slice none 0 0,.slice none 0 0,.slice none 0 0,.slice none 0 0,.slice none 0 0] 39):=by rw [hw0];exact Blk.new' _ _ _ (by simp)
 have hz0:w0.heap.size=w.heap.size+3:=by rw [hw0];simp
 have HNd:Hid (∀ z,Below w0.heap.size w0 z->NdAt z n (.slice a12 n.log.length c12) (.slice a13 n.gr.length c13) (.slice a14 n.nx.length c14) (.slice a15 n.mt.length c15) (.slice a16 n.se.length c16) (.slice a17 n.st.length c17)):=fun z hz=>h.below (HB0.out.trans (hz.mono (by omega)))
 clear hw0 h
 go_cut [5] (fun s wx=>∃(b:Nat) (u:CpU),s=.pointer (some ⟨b,0,none⟩)/\Z4 wx w0.heap.size b ⟨n,[],0,0,dr⟩ ⟨u.v12,u.v13,u.v14,u.v15,u.v16,u.v17,.slice none 0 0,[]⟩/\Below w0.heap.size w0 wx)
 case first=>
  refine Z1k ?_;intro a0 ha0;have hsz0:a0.tmps.size=37:=by rw [ha0];rfl
  have e2:a0.eval (.tmp 2)=.pointer (some ⟨w.heap.size,0,none⟩):=by rw [ha0];rfl
  have e3:a0.eval (.tmp 3)=.pointer (some ⟨w.heap.size+1,0,none⟩):=by rw [ha0];rfl
  have HA0:Hid (a0=_):=ha0;clear ha0;refine Xw (by kernel_rfl) (fun L aF w'=>∃ x:Nat->Value,aF=frame a0 [6,7,8,9,10,5] x/\Below w0.heap.size w0 w'/\(L.getD 0 false=true->x 6=.agg #[.int .i64 n.id,.int .i64 n.sz,.int .i64 n.el,.int .i64 n.bt,.int .i64 n.tm,.int .i64 n.vo,.int .i64 n.ro,.int .i64 n.ld,.int .i64 n.cm,.int .i64 n.nw,.int .i64 n.dl,.int .i64 n.hd,.slice a12 n.log.length c12,.slice a13 n.gr.length c13,.slice a14 n.nx.length c14,.slice a15 n.mt.length c15,.slice a16 n.se.length c16,.slice a17 n.st.length c17])/\(L.getD 1 false=true->∃ u:CpU,x 7=.agg #[.int .i64 n.id,.int .i64 n.sz,.int .i64 n.el,.int .i64 n.bt,.int .i64 n.tm,.int .i64 n.vo,.int .i64 n.ro,.int .i64 n.ld,.int .i64 n.cm,.int .i64 n.nw,.int .i64 n.dl,.int .i64 n.hd,u.v12,u.v13,u.v14,u.v15,u.v16,u.v17]/\CpAt w' w0.heap.size n u)/\(L.getD 2 false=true->x 8=.pointer (some ⟨w.heap.size+1,1,none⟩))/\(L.getD 3 false=true->x 9=.int .i64 dr)/\(L.getD 4 false=true->∃ u:CpU,x 10=.agg #[.int .i64 n.id,.int .i64 n.sz,.int .i64 n.el,.int .i64 n.bt,.int .i64 n.tm,.int .i64 n.vo,.int .i64 n.ro,.int .i64 n.ld,.int .i64 n.cm,.int .i64 n.nw,.int .i64 n.dl,.int .i64 n.hd,u.v12,u.v13,u.v14,u.v15,u.v16,u.v17,.slice none 0 0,.int .i64 0,.int .i64 0,.int .i64 dr]/\CpAt w' w0.heap.size n u)/\(L.getD 5 false=true->∃ p C,x 5=.pointer (some ⟨p,0,none⟩)/\w0.heap.size<=p/\Blk w' p C 112/\C.size=22/\(L.getD 6 false=true->∃ u:CpU,C=#[.int .i64 n.id,.int .i64 n.sz,.int .i64 n.el,.int .i64 n.bt,.int .i64 n.tm,.int .i64 n.vo,.int .i64 n.ro,.int .i64 n.ld,.int .i64 n.cm,.int .i64 n.nw,.int .i64 n.dl,.int .i64 n.hd,u.v12,u.v13,u.v14,u.v15,u.v16,u.v17,.slice none 0 0,.int .i64 0,.int .i64 0,.int .i64 dr]/\CpAt w' w0.heap.size n u))/\(L.getD 6 false=true->L.getD 5 false=true)) ?_ ?_ ?_
  ·exact ⟨_,Z08 a0 [6,7,8,9,10,5],(Below.refl _ _).drew,fun h=>(Y3 h).elim,fun h=>(Y3 h).elim,fun h=>(Y3 h).elim,fun h=>(Y3 h).elim,fun h=>(Y3 h).elim,fun h=>(Y3 h).elim,fun h=>(Y3 h).elim⟩
  ·rintro L a w' i hsL hi ⟨x,rfl,hB,h0,h1,h2,h3,h4,h5,h6⟩
   have hiL:i<7:=(X7 hsL hi).1;have hL:L.size=7:=hsL;have hw':w0.heap.size<=w'.heap.size:=hB.size;rcases (show i=0∨i=1∨i=2∨i=3∨i=4∨i=5∨i=6 by omega) with rfl | rfl | rfl | rfl | rfl | rfl | rfl
   ·skip
    refine Zb rfl rfl (X6 36 (.tmp 2) rfl (w.heap.size) ((Ye _ _ _ 2 rfl).trans e2) (BN0.out.below hB (by omega)) Tryz.underlying36 rfl J6 rfl ?_);exact ⟨_,Zg _ _ _ 6 _ rfl,hB,fun h=>Zi _ _ _,fun h=>by rw [Zc _ _ _ _ (by decide)];exact (h1 (Z5 h (by omega) (by decide))),ke h2 (by omega) (by decide) (by decide),ke h3 (by omega) (by decide) (by decide),fun h=>by rw [Zc _ _ _ _ (by decide)];exact (h4 (Z5 h (by omega) (by decide))),fun h=>by obtain ⟨p,C,ep,hp,hP,hC,hR⟩:=h5 (Z5 h (by omega) (by decide));exact ⟨p,C,(Zc _ _ _ _ (by decide)).trans ep,hp,hP,hC,fun hq6=>(hR (Z5 hq6 (by omega) (by decide)))⟩,fun h=>Yw (h6 (Z5 h (by omega) (by decide))) (by omega)⟩
   ·have d0:=h0 (Z9 hi (by decide))
    have ev6:=(Za a0 [6,7,8,9,10,5] x 6 rfl (by omega)).trans d0;refine Zb rfl rfl (Ya (N:=64) rfl (fun _ _=>by go_simp) #[.agg #[.int .i64 n.id,.int .i64 n.sz,.int .i64 n.el,.int .i64 n.bt,.int .i64 n.tm,.int .i64 n.vo,.int .i64 n.ro,.int .i64 n.ld,.int .i64 n.cm,.int .i64 n.nw,.int .i64 n.dl,.int .i64 n.hd,.slice a12 n.log.length c12,.slice a13 n.gr.length c13,.slice a14 n.nx.length c14,.slice a15 n.mt.length c15,.slice a16 n.se.length c16,.slice a17 n.st.length c17]] (by simp only [List.map_toArray,List.map_cons,List.map_nil,ev6]) ?_);refine Calls.mono (l4copy_any n _ _ _ _ _ _ w' (HNd.out w' hB) hl l13 l14 l15 l16 l17) ?_;rintro e w2 ⟨u12,u13,u14,u15,u16,u17,rfl,o12,o13,o14,o15,o16,o17,hap,hb⟩;refine ⟨_,rfl,?_⟩;exact ⟨_,Zg _ _ _ 7 _ rfl,hB.trans (hb.mono hw'),ke h0 (by omega) (by decide) (by decide),fun h=>⟨⟨u12,u13,u14,u15,u16,u17⟩,Zi _ _ _,⟨o12.le hw',o13.le hw',o14.le hw',o15.le hw',o16.le hw',o17.le hw',hap⟩⟩,ke h2 (by omega) (by decide) (by decide),ke h3 (by omega) (by decide) (by decide),fun h=>by rw [Zc _ _ _ _ (by decide)];exact (let ⟨u,e1,e2⟩:=(h4 (Z5 h (by omega) (by decide)));⟨u,e1,e2.below hb⟩),fun h=>by obtain ⟨p,C,ep,hp,hP,hC,hR⟩:=h5 (Z5 h (by omega) (by decide));exact ⟨p,C,(Zc _ _ _ _ (by decide)).trans ep,hp,hP.below hb hP.lt,hC,fun hq6=>(let ⟨u,e1,e2⟩:=hR (Z5 hq6 (by omega) (by decide));⟨u,e1,e2.below hb⟩)⟩,fun h=>Yw (h6 (Z5 h (by omega) (by decide))) (by omega)⟩
   ·skip
    have ev3:(frame a0 [6,7,8,9,10,5] x).tmps[3]?.getD undef=.pointer (some ⟨w.heap.size+1,0,none⟩):=by have h:=(Ye a0 [6,7,8,9,10,5] x 3 rfl).trans e3;simpa [Act.eval] using h
    refine Zb rfl rfl (Yz (v:=.pointer (some ⟨w.heap.size+1,1,none⟩)) ?_ ?_)
    ·obtain ⟨aa,haa⟩:∃ aa,aa=frame a0 [6,7,8,9,10,5] x:=⟨_,rfl⟩
     rw [<-haa] at ev3 ⊢;clear haa HA0;go_simp
    exact ⟨_,Zg _ _ _ 8 _ rfl,hB,ke h0 (by omega) (by decide) (by decide),fun h=>by rw [Zc _ _ _ _ (by decide)];exact (h1 (Z5 h (by omega) (by decide))),fun h=>Zi _ _ _,ke h3 (by omega) (by decide) (by decide),fun h=>by rw [Zc _ _ _ _ (by decide)];exact (h4 (Z5 h (by omega) (by decide))),fun h=>by obtain ⟨p,C,ep,hp,hP,hC,hR⟩:=h5 (Z5 h (by omega) (by decide));exact ⟨p,C,(Zc _ _ _ _ (by decide)).trans ep,hp,hP,hC,fun hq6=>(hR (Z5 hq6 (by omega) (by decide)))⟩,fun h=>Yw (h6 (Z5 h (by omega) (by decide))) (by omega)⟩
   ·have d2:=h2 (Z9 hi (by decide))
    have cin:w'.cell? ⟨w.heap.size+1,1,none⟩=some (.int .i64 dr):=(BI0.out.below hB (by omega)).cell 1;have ev8:(frame a0 [6,7,8,9,10,5] x).tmps[8]?.getD undef=.pointer (some ⟨w.heap.size+1,1,none⟩):=by have h:=(Za a0 [6,7,8,9,10,5] x 8 rfl (by omega)).trans d2;simpa [Act.eval] using h
    refine Zb rfl rfl (Yz (v:=.int .i64 dr) ?_ ?_)
    ·obtain ⟨aa,haa⟩:∃ aa,aa=frame a0 [6,7,8,9,10,5] x:=⟨_,rfl⟩
     rw [<-haa] at ev8 ⊢;clear haa HA0;go_simp
    exact ⟨_,Zg _ _ _ 9 _ rfl,hB,ke h0 (by omega) (by decide) (by decide),fun h=>by rw [Zc _ _ _ _ (by decide)];exact (h1 (Z5 h (by omega) (by decide))),ke h2 (by omega) (by decide) (by decide),fun h=>Zi _ _ _,fun h=>by rw [Zc _ _ _ _ (by decide)];exact (h4 (Z5 h (by omega) (by decide))),fun h=>by obtain ⟨p,C,ep,hp,hP,hC,hR⟩:=h5 (Z5 h (by omega) (by decide));exact ⟨p,C,(Zc _ _ _ _ (by decide)).trans ep,hp,hP,hC,fun hq6=>(hR (Z5 hq6 (by omega) (by decide)))⟩,fun h=>Yw (h6 (Z5 h (by omega) (by decide))) (by omega)⟩
   ·have d1:=h1 (Z9 hi (by decide))
    have d3:=h3 (Z9 hi (by decide));obtain ⟨u,e7,hcp⟩:=d1;have ev7:(frame a0 [6,7,8,9,10,5] x).tmps[7]?.getD undef=.agg #[.int .i64 n.id,.int .i64 n.sz,.int .i64 n.el,.int .i64 n.bt,.int .i64 n.tm,.int .i64 n.vo,.int .i64 n.ro,.int .i64 n.ld,.int .i64 n.cm,.int .i64 n.nw,.int .i64 n.dl,.int .i64 n.hd,u.v12,u.v13,u.v14,u.v15,u.v16,u.v17]:=by have h:=(Za a0 [6,7,8,9,10,5] x 7 rfl (by omega)).trans e7;simpa [Act.eval] using h
    have ev9:(frame a0 [6,7,8,9,10,5] x).tmps[9]?.getD undef=.int .i64 dr:=by have h:=(Za a0 [6,7,8,9,10,5] x 9 rfl (by omega)).trans d3;simpa [Act.eval] using h
    refine Zb rfl rfl (Yz (v:=.agg #[.int .i64 n.id,.int .i64 n.sz,.int .i64 n.el,.int .i64 n.bt,.int .i64 n.tm,.int .i64 n.vo,.int .i64 n.ro,.int .i64 n.ld,.int .i64 n.cm,.int .i64 n.nw,.int .i64 n.dl,.int .i64 n.hd,u.v12,u.v13,u.v14,u.v15,u.v16,u.v17,.slice none 0 0,.int .i64 0,.int .i64 0,.int .i64 dr]) ?_ ?_)
    ·obtain ⟨aa,haa⟩:∃ aa,aa=frame a0 [6,7,8,9,10,5] x:=⟨_,rfl⟩
     rw [<-haa] at ev7 ev9 ⊢;clear haa HA0;go_simp
    exact ⟨_,Zg _ _ _ 10 _ rfl,hB,ke h0 (by omega) (by decide) (by decide),fun h=>by rw [Zc _ _ _ _ (by decide)];exact (h1 (Z5 h (by omega) (by decide))),ke h2 (by omega) (by decide) (by decide),ke h3 (by omega) (by decide) (by decide),fun h=>⟨u,Zi _ _ _,hcp⟩,fun h=>by obtain ⟨p,C,ep,hp,hP,hC,hR⟩:=h5 (Z5 h (by omega) (by decide));exact ⟨p,C,(Zc _ _ _ _ (by decide)).trans ep,hp,hP,hC,fun hq6=>(hR (Z5 hq6 (by omega) (by decide)))⟩,fun h=>Yw (h6 (Z5 h (by omega) (by decide))) (by omega)⟩
   ·skip
    refine Zb rfl rfl (Z29 112 #[.int .i64 0,.int .i64 0,.int .i64 0,.int .i64 0,.int .i64 0,.int .i64 0,.int .i64 0,.int .i64 0,.int .i64 0,.int .i64 0,.int .i64 0,.int .i64 0,.slice none 0 0,.slice none 0 0,.slice none 0 0,.slice none 0 0,.slice none 0 0,.slice none 0 0,.slice none 0 0,.int .i64 0,.int .i64 0,.int .i64 0] rfl (fun _=>by go_simp) ?_);have hb:Below w'.heap.size w' (w'.alloc (.cells #[.int .i64 0,.int .i64 0,.int .i64 0,.int .i64 0,.int .i64 0,.int .i64 0,.int .i64 0,.int .i64 0,.int .i64 0,.int .i64 0,.int .i64 0,.int .i64 0,.slice none 0 0,.slice none 0 0,.slice none 0 0,.slice none 0 0,.slice none 0 0,.slice none 0 0,.slice none 0 0,.int .i64 0,.int .i64 0,.int .i64 0] 112)):=(Below.refl _ _).alloc (Nat.le_refl _) _;exact ⟨_,Zg _ _ _ 5 _ rfl,hB.alloc hw' _,ke h0 (by omega) (by decide) (by decide),fun h=>by rw [Zc _ _ _ _ (by decide)];exact (let ⟨u,e1,e2⟩:=(h1 (Z5 h (by omega) (by decide)));⟨u,e1,e2.below hb⟩),ke h2 (by omega) (by decide) (by decide),ke h3 (by omega) (by decide) (by decide),fun h=>by rw [Zc _ _ _ _ (by decide)];exact (let ⟨u,e1,e2⟩:=(h4 (Z5 h (by omega) (by decide)));⟨u,e1,e2.below hb⟩),fun h=>⟨_,_,Zi _ _ _,hw',Blk.new _ _ _,rfl,fun hq6=>(Z3g hsL hi (h6 (Z5 hq6 (by omega) (by decide)))).elim⟩,fun h=>setSelf (by omega)⟩
   ·have d5:=h5 (Z9 hi (by decide))
    have d4:=h4 (Z9 hi (by decide));obtain ⟨p,C,ep,hp,hP,hC,hR⟩:=d5;obtain ⟨u,e10,hcp⟩:=d4;have evp:=(Za a0 [6,7,8,9,10,5] x 5 rfl (by omega)).trans ep;have evs:=(Za a0 [6,7,8,9,10,5] x 10 rfl (by omega)).trans e10;refine Zb rfl rfl (Z0r 112 (.tmp 5) (.tmp 10) rfl p evp evs hP sizeRn rfl hC (hcp.one dr) ?_);exact ⟨_,rfl,Xa hB hp _,ku h0 (by omega) (by decide),fun h=>(let ⟨u,e1,e2⟩:=(h1 (Z5 h (by omega) (by decide)));⟨u,e1,e2.row hP _⟩),ku h2 (by omega) (by decide),ku h3 (by omega) (by decide),fun h=>(let ⟨u,e1,e2⟩:=(h4 (Z5 h (by omega) (by decide)));⟨u,e1,e2.row hP _⟩),fun h=>⟨p,_,ep,hp,hP.row _,rfl,fun _=>⟨u,rfl,hcp.row hP _⟩⟩,fun h=>Yw (Z9 hi (by decide)) (by omega)⟩
  ·rintro L a w' hsL hr ⟨x,rfl,hB,h0,h1,h2,h3,h4,h5,h6⟩
   have hall:=Jt hsL hr (by decide);replace h0:=h0 (hall 0 (by decide));replace h1:=h1 (hall 1 (by decide));replace h2:=h2 (hall 2 (by decide));replace h3:=h3 (hall 3 (by decide));replace h4:=h4 (hall 4 (by decide));replace h5:=h5 (hall 5 (by decide));replace h6:=h6 (hall 6 (by decide));obtain ⟨p,C,ep,hp,hP,hC,hR⟩:=h5;replace hR:=hR (hall 6 (by decide));rw [HA0.out];simp only [frame,List.zipIdx_cons,List.zipIdx_nil,List.map_cons,List.map_nil,List.contains_cons,List.contains_nil,Nat.reduceBEq,Nat.reduceAdd,Bool.or_false,Bool.false_or,Bool.or_true,Bool.true_or,Bool.false_eq_true,if_false,if_true,h0,h2,h3,ep];obtain ⟨u,hCe,hcp⟩:=hR
   go_wp2_with fail
   go_meet;exact ⟨p,u,rfl,hcp.run dr hp (by rw [<-hCe];exact hP),hB⟩
 case rest=>
  obtain ⟨b,u,rfl,hR,hB⟩:=hcut;obtain ⟨w1,hw1⟩:∃ z,z=wc:=⟨_,rfl⟩;rw [<-hw1] at hR hB;subst hw1;obtain ⟨X0,hX0⟩:∃ X0:RV,X0=⟨u.v12,u.v13,u.v14,u.v15,u.v16,u.v17,.slice none 0 0,[]⟩:=⟨_,rfl⟩;have hXL:X0.L = []:=by rw [hX0]
  rw [<-hX0] at hR;obtain ⟨R0,hR0⟩:∃ R0:Rn,R0=⟨n,[],0,0,dr⟩:=⟨_,rfl⟩;rw [<-hR0] at hR;have HE0:Hid (R0.n=n/\R0.draw=dr):=by rw [hR0];exact ⟨rfl,rfl⟩
  have HRP:Hid (RP=if ki=1 then R0.tick else if ki=2 then R0.message (decide (msB m≠0)) m else if ki=3 then R0.propose (decide (Jk cl sq op k.size v.size o.size≠0∨op=0)) cl sq op k v o else { R0 with code:=8 }):=by unfold Hid;rw [<-HRP0.out,hR0];rfl
  have HR1:Hid _:=hR;have HB1:Hid _:=hB;have BI1:Hid (Blk w1 (w.heap.size+1) _ 46):=BI0.out.below hB (by omega);have BS1:Hid (Blk w1 (w.heap.size+2) _ 39):=BS0.out.below hB (by omega);have HEs:Hid (Es w1 (.slice ea m.es.length ec) m.es):=he.below (HB0.out.trans (hB.mono (by omega)));have n0:w1.cell? ⟨w.heap.size+1,0,none⟩=some (.int .i64 ki):=BI1.out.cell 0;have HHt:Hid _:=l4tick_any b R0 X0 w1 w0.heap.size hR (by rw [HE0.out.1];exact hb) (by rw [HE0.out.2];exact hd) (by rw [HE0.out.2];exact hD) (by rw [hXL];simp) (by rw [HE0.out.1];exact hodd) (by rw [HE0.out.1];exact ht0) (by rw [HE0.out.1];exact ht1) (by rw [HE0.out.1];exact hLt);have HHm:Hid _:=l4message_any b R0 X0 m ea ec w1 w0.heap.size hR HEs.out (fun k e=>by have:=hlo k e;omega) hen (by rw [HE0.out.1];exact hb) (by rw [HE0.out.2];exact hd) (by rw [HE0.out.2];exact hD) hXL (by rw [HE0.out.1];exact ht0) (by rw [HE0.out.1];exact ht1) (by rw [HE0.out.1];exact hodd) (by rw [HE0.out.1];exact hgl) (by rw [HE0.out.1];exact hLm) (by rw [HE0.out.1];exact hcm0);have HHp:Hid _:=l4propose_any b R0 X0 cl sq op k v o w1 w0.heap.size hR (by rw [HE0.out.1];exact hb) hXL (by rw [HE0.out.1];exact fun h3=>(hLm h3).ldb) hk hv ho;have hbz:b<w1.heap.size:=hR.lt;have hbl:w0.heap.size<=b:=hR.lo;clear hR hB hX0 hR0 HNd BN0 BI0 BS0
  go_upto_if 13 with fail
  go_cut [] (fun wx=>∃ X5:RV,Z4 wx w0.heap.size b RP X5/\Below w0.heap.size w1 wx)
  case first=>
   by_cases h1:ki=1
   ·have HF:Hid (RP=R0.tick):=HRP.out.trans (if_pos h1)
    have b1:(ki == 1)=true:=by simpa using h1
    rw [b1];clear HRP h1 b1
    go_wp2_with (first
     |(go_at_call 76;refine Calls.mono HHt.out ?_;rintro e wz ⟨x9,rfl,hRz,hbz9⟩;have HRz:Hid _:=hRz;have HBz:Hid _:=hbz9;clear hRz hbz9))
    go_meet;exact ⟨x9,by rw [HF.out];exact HRz.out,HBz.out⟩
   have b1:(ki == 1)=false:=by simpa using h1
   rw [b1];by_cases h2:ki=2
   ·have HF:Hid (RP=R0.message (decide (msB m≠0)) m):=(HRP.out.trans (if_neg h1)).trans (if_pos h2)
    have b2:(ki == 2)=true:=by simpa using h2
    have G2:Hid True:=trivial;clear HRP h1 h2 b1
    go_wp2_with (first
     |(have hBA:=G2;refine Z7 43 (.tmp 18) rfl ?_;clear hBA;refine wpList_load_mid rfl 43 (.tmp 18) rfl (w.heap.size+1) 2 rfl [.int .i64 m.ki,.int .i64 m.fr,.int .i64 m.td,.int .i64 m.tm,.int .i64 m.li,.int .i64 m.lt,.int .i64 m.cm,.int .i64 m.ok,.int .i64 m.hi,.slice ea m.es.length ec] _ (Y5 BI1.out 2 [.int .i64 m.ki,.int .i64 m.fr,.int .i64 m.td,.int .i64 m.tm,.int .i64 m.li,.int .i64 m.lt,.int .i64 m.cm,.int .i64 m.ok,.int .i64 m.hi,.slice ea m.es.length ec] rfl) Tryz.underlying43 rfl (by rw [Zy];rfl) ?_;clear G2)
     |(go_at_call 77;refine Calls.mono HHm.out ?_;rintro e wz ⟨x9,rfl,hRz,hbz9⟩;have HRz:Hid _:=hRz;have HBz:Hid _:=hbz9;clear hRz hbz9))
    go_meet;exact ⟨x9,by rw [HF.out];exact HRz.out,HBz.out⟩
   have b2:(ki == 2)=false:=by simpa using h2
   by_cases h3:ki=3
   ·have HF:Hid (RP=R0.propose (decide (Jk cl sq op k.size v.size o.size≠0∨op=0)) cl sq op k v o):=((HRP.out.trans (if_neg h1)).trans (if_neg h2)).trans (if_pos h3)
    have b3:(ki == 3)=true:=by simpa using h3
    have G2:Hid True:=trivial;clear HRP h1 h2 h3 b1
    go_wp2_with (first
     |(have hBA:=G2;refine Z7 44 (.tmp 24) rfl ?_;clear hBA;refine wpList_load_mid rfl 44 (.tmp 24) rfl (w.heap.size+1) 12 rfl [.int .i64 cl,.int .i64 sq,.int .i64 op,.string k,.string v,.string o] _ (Y5 BI1.out 12 [.int .i64 cl,.int .i64 sq,.int .i64 op,.string k,.string v,.string o] rfl) Tryz.underlying44 rfl (by rw [sizeCm];rfl) ?_;clear G2)
     |(go_at_call 78;refine Calls.mono HHp.out ?_;rintro e wz ⟨x9,rfl,hRz,hbz9⟩;have HRz:Hid _:=hRz;have HBz:Hid _:=hbz9;clear hRz hbz9))
    go_meet;exact ⟨x9,by rw [HF.out];exact HRz.out,HBz.out⟩
   have b3:(ki == 3)=false:=by simpa using h3
   have HF:Hid (RP={ R0 with code:=8 }):=((HRP.out.trans (if_neg h1)).trans (if_neg h2)).trans (if_neg h3);have k19:w1.cell? ⟨b,19,none⟩=some (.int .i64 R0.code):=HR1.out.blk.cell 19;have f19:w1.frozen? ⟨b,19,none⟩=false:=HR1.out.blk.free 19;clear HRP h1 h2 h3 b1
   go_wp2_with fail
   go_meet;exact ⟨X0,by rw [HF.out];exact HR1.out.set 19 _ rfl rfl rfl rfl rfl rfl rfl rfl,HR1.out.setB 19 _⟩
  case rest=>
   obtain ⟨X5,hR5,hB5⟩:=hcut;obtain ⟨w2,hw2⟩:∃ z,z=wc:=⟨_,rfl⟩;rw [<-hw2] at hR5 hB5;subst hw2;have HR2:Hid _:=hR5;have HBo:Hid (Below w.heap.size w w2):=(HB0.out.trans (HB1.out.mono (by omega))).trans (hB5.mono (by omega));have BS2:Hid (Blk w2 (w.heap.size+2) _ 39):=BS1.out.keep (hB5.block _ (by omega));obtain ⟨oa,oc,hvo⟩:=hR5.out.shape;have c18:w2.cell? ⟨b,18,none⟩=some (.slice oa X5.L.length oc):=by rw [<-hvo];exact hR5.blk.cell 18
   have c19:w2.cell? ⟨b,19,none⟩=some (.int .i64 RP.code):=hR5.blk.cell 19;have c20:w2.cell? ⟨b,20,none⟩=some (.int .i64 RP.drew):=hR5.blk.cell 20
   have HOne:Hid ((saC RP X5).all (·.oneCell')=true):=by
    obtain ⟨x12,y12,e12⟩:=hR5.log.shape;obtain ⟨x13,y13,e13⟩:=hR5.gr.shape;obtain ⟨x14,y14,e14⟩:=hR5.nx.shape;obtain ⟨x15,y15,e15⟩:=hR5.mt.shape;obtain ⟨x16,y16,e16⟩:=hR5.se.shape;obtain ⟨x17,y17,e17⟩:=hR5.st.shape;unfold Hid saC;simp [Value.oneCell',e12,e13,e14,e15,e16,e17,hvo]
   have HSa:Hid (saC RP X5=#[.int .i64 RP.code,.int .i64 RP.drew,.int .i64 RP.n.id,.int .i64 RP.n.sz,.int .i64 RP.n.el,.int .i64 RP.n.bt,.int .i64 RP.n.tm,.int .i64 RP.n.vo,.int .i64 RP.n.ro,.int .i64 RP.n.ld,.int .i64 RP.n.cm,.int .i64 RP.n.nw,.int .i64 RP.n.dl,.int .i64 RP.n.hd,X5.vl,X5.vg,X5.vn,X5.vm,X5.vs,X5.vt,.slice oa X5.L.length oc]):=by unfold Hid saC;rw [hvo]
   have hnd:ndC RP.n X5=#[.int .i64 RP.n.id,.int .i64 RP.n.sz,.int .i64 RP.n.el,.int .i64 RP.n.bt,.int .i64 RP.n.tm,.int .i64 RP.n.vo,.int .i64 RP.n.ro,.int .i64 RP.n.ld,.int .i64 RP.n.cm,.int .i64 RP.n.nw,.int .i64 RP.n.dl,.int .i64 RP.n.hd,X5.vl,X5.vg,X5.vn,X5.vm,X5.vs,X5.vt]:=rfl;have HOn2:=HOne.out;rw [HSa.out] at HOn2;have HOn3:Hid _:=HOn2;have hbl2:w0.heap.size<=b:=hR5.lo;have HK:Hid (∀ C':Array Value,Z4 (w2.setRow (w.heap.size+2) C') w.heap.size b RP X5/\Below w.heap.size w (w2.setRow (w.heap.size+2) C')):=fun C'=>⟨(hR5.keepB fun k hk=>setRow_other w2 (w.heap.size+2) k C' (show k≠w.heap.size+2 by omega)).le (show w.heap.size<=w0.heap.size by omega),Xa HBo.out (show w.heap.size<=w.heap.size+2 by omega) C'⟩
   have G2:Hid True:=trivial;have G3:Hid True:=trivial;clear hR5 hB5 hvo HOn2 n0 HHt HHm HHp
   go_wp2_with (first
    |(have hBA:=G2;refine Z7 36 (.tmp 32) rfl ?_;clear hBA;refine Xj rfl (.tmp 32) rfl rfl HR2.out ?_;clear G2)
    |(have hBA:=G3;refine Xl 39 (.tmp 4) (.tmp 36) rfl ?_;clear hBA;refine Yu rfl 39 (.tmp 4) (.tmp 36) rfl (w.heap.size+2) rfl rfl BS2.out sizeSa rfl rfl HOn3.out ?_;clear G3))
   (try simp only [Exit.inBlock,Exit.then])
   refine bodyPost_ret (v:=.agg (saC RP X5)) (Xd Tryz.results32 rfl (by rw [HSa.out];exact BS2.out.row _) Tryz.underlying39 rfl sizeSa (by rw [HSa.out];rfl)) rfl ⟨b,X5,rfl,(HK.out _).1,(HK.out _).2⟩
theorem rise_len (most:Int):∀(l:List Int) (last:Int),last<=most->Yo most last l=true->last+(l.length:Int)<=most
 | [],last,h,_=>by simpa using h
 | x :: l,last,h,hr=>by
  simp only [Yo,Bool.and_eq_true,Zk] at hr;have:=rise_len most l x hr.1.2 hr.2;simp only [List.length_cons]
  push_cast
  omega
def Z0l (n:Nd):Int:=Yj n.id n.sz n.el n.bt n.tm n.vo n.ro n.ld n.cm n.nw n.dl n.hd n.log n.gr n.nx n.mt n.se n.st
theorem Z1w (n:Nd)(h:Z0l n=0):NdB n/\0<=n.tm/\n.tm<=1073741824/\n.sz%2=1/\n.gr.length<=1000/\0<=n.cm/\Yr n.ro n.sz n.id n.gr=true/\Yv n.ro n.sz n.id n.log.length n.nw n.nx n.mt n.se n.st=true:=by
 unfold Z0l Yj at h;split at h
 ·simp at h
 rename_i h1;split at h
 ·simp at h
 rename_i h2;split at h
 ·simp at h
 split at h
 ·simp at h
 rename_i h4;split at h
 ·simp at h
 split at h
 ·simp at h
 rename_i h5;split at h
 ·simp at h
 rename_i h6;split at h
 ·simp at h
 rename_i h7;split at h
 ·simp at h
 rename_i h8;have k1:Zr n.id n.sz n.el n.bt=true:=by simpa using h1
 have k2:Yx n.sz n.tm n.vo=true:=by simpa using h2
 have k5:inB n.cm 0 n.log.length=true:=by simpa using h5
 have k6:Y7 n.el n.nw n.dl n.hd=true:=by simpa using h6
 have k7:Yr n.ro n.sz n.id n.gr=true:=by simpa using h7
 have k8:Yv n.ro n.sz n.id n.log.length n.nw n.nx n.mt n.se n.st=true:=by simpa using h8
 obtain ⟨s1,s2,s3,s4⟩:=Yy k1;have hs:n.sz=3∨n.sz=5∨n.sz=7:=by simpa [sizB,or_assoc] using s1
 unfold Yx at k2;simp only [Bool.and_eq_true,Zk] at k2;unfold Y7 at k6;simp only [Bool.and_eq_true,Zk] at k6;rw [Zk] at k5;refine ⟨⟨k6.1.1,k6.1.2,k6.2.2.1,k6.2.2.2,s2.1,s2.2,s3.1,s3.2,by omega⟩,k2.1.1,k2.1.2,by omega,?_,k5.1,k7,k8⟩;have k9:=k7;unfold Yr at k9;split at k9
 ·have:(n.gr.length:Int)=0:=by simpa using k9
  omega
 ·simp only [Bool.and_eq_true] at k9
  have:=rise_len n.sz n.gr 0 (by omega) k9.1;omega
theorem Z3f {l:List Int}{j:Nat}(h:j<l.length):l.getD j 0=l[j]:=by rw [List.getD_eq_getElem?_getD,List.getElem?_eq_getElem h];rfl
theorem progs_at {id ln nw:Int}{l14 l15 l16 l17:List Int}{n:Nat}(h:Yi id ln nw l14 l15 l16 l17 n 0=true)(j:Nat)(hj:j<n):Y9 ((j:Int)+1) id ln nw (l14.getD j 0) (l15.getD j 0) (l16.getD j 0) (l17.getD j 0)=true:=by
 unfold Yi at h;exact List.all_eq_true.1 h j (by rw [List.mem_range'_1];omega)
theorem Z3b (n:Nd)(hro:n.ro=3)(hsz:0<=n.sz)(hnw:0<=n.nw)(h:Yv n.ro n.sz n.id n.log.length n.nw n.nx n.mt n.se n.st=true):LdM n n.sz.toNat/\LdT n n.sz.toNat:=by
 unfold Yv at h;rw [if_pos hro,Bool.and_eq_true,Ji] at h;obtain ⟨⟨e1,e2,e3,e4⟩,hp⟩:=h;have hat:=progs_at hp
 have hldb:LdB n n.sz.toNat:=by
  refine ⟨by omega,by omega,?_⟩;intro J hJ hne;have h9:=hat J (by omega);unfold Y9 at h9;rw [if_neg hne,Z3f hJ] at h9;simp only [Bool.and_eq_true,Zk] at h9;exact ⟨(n.nx[J]-1).toNat,by omega,by omega⟩
 have hall:∀ j,j<n.sz.toNat->(0<=n.se.getD j 0/\n.se.getD j 0<=n.nw)/\(0<=n.st.getD j 0/\n.st.getD j 0<=n.nw):=by
  intro j hj;have h9:=hat j hj;unfold Y9 at h9;split at h9
  ·simp only [Bool.and_eq_true,beq_iff_eq] at h9
   omega
  ·simp only [Bool.and_eq_true,Zk] at h9
   omega
 refine ⟨⟨hldb,by omega,by omega,?_⟩,⟨hldb,by omega,?_,?_⟩⟩
 ·intro J h1 h2 hne
  have h9:=hat J (by omega);unfold Y9 at h9;rw [if_neg hne,Z3f h1,Z3f h2] at h9;simp only [Bool.and_eq_true,Zk] at h9;omega
 ·intro y hy
  obtain ⟨j,hj,rfl⟩:=List.mem_iff_getElem.1 hy;have:=(hall j (by omega)).1
  rwa [Z3f hj] at this
 ·intro y hy
  obtain ⟨j,hj,rfl⟩:=List.mem_iff_getElem.1 hy;have:=(hall j (by omega)).2
  rwa [Z3f hj] at this
end Go.Proofs.YtmmpoppgabadmaaGreat
