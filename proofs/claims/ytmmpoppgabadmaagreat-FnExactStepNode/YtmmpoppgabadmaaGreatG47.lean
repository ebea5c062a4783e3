import Derived.Test.YtmmpoppgabadmaaGreatG45
set_option linter.unusedVariables false
set_option linter.unusedSimpArgs false
set_option maxRecDepth 100000
set_option maxHeartbeats 16000000
namespace Go.Proofs.YtmmpoppgabadmaaGreat
open Go.RowKit Go.Maps
def Rn.join (r:Rn)(m:Mg):Rn:=
 if r.n.log.length<m.li.toNat∨(0<m.li/\Yb r.n.log m.li.toNat≠m.lt) then r.send ⟨6,0,m.fr,r.n.tm,m.li,0,0,0,min (r.n.log.length:Int) (m.li-1),[]⟩
 else
  let i:=Y0 r.n.log m.li.toNat m.es
  if i<m.es.length/\m.li+i+1<=r.n.cm then r.stale
  else
   let log:=if i<m.es.length then r.n.log.take (m.li.toNat+i) ++ m.es.drop i else r.n.log
   Rn.send { r with n:={ r.n with log:=log,cm:=max r.n.cm (min m.cm (m.li+m.es.length)) } } ⟨6,0,m.fr,r.n.tm,m.li+m.es.length,0,0,1,0,[]⟩
theorem append_join (r:Rn)(m:Mg):r.append m=if m.tm<r.n.tm then r.send ⟨6,0,m.fr,r.n.tm,m.li,0,0,0,0,[]⟩ else if (r.higher m.tm).n.ro=3 then (r.higher m.tm).stale else Rn.join (Rn.timer { (r.higher m.tm).lone with n:={ (r.higher m.tm).lone.n with ld:=m.fr,hd:=(r.higher m.tm).n.nw } }) m:=rfl
def joB (n:Nd)(m:Mg):Bool:=decide ((n.log.length:Int)<m.li) || (Yb n.log m.li.toNat != m.lt)
theorem joB_iff (n:Nd)(m:Mg)(h:0<=m.li)(h0:m.li=0->m.lt=0):joB n m=true↔(n.log.length<m.li.toNat∨(0<m.li/\Yb n.log m.li.toNat≠m.lt)):=by
 unfold joB;rw [Bool.or_eq_true,decide_eq_true_eq,bne_iff_ne];constructor
 ·rintro (h1 | h1)
  ·exact .inl (by omega)
  ·by_cases e:m.li=0
   ·exfalso
    apply h1;rw [e,h0 e];rfl
   ·exact .inr ⟨by omega,h1⟩
 ·rintro (h1 | h1)
  ·exact .inl (by omega)
  ·exact .inr h1.2
theorem run_sliceLo (u:World)(g o EN ec K:Nat)(h:K<EN)(hc:EN<=ec) :
  (Instr.slice 34 (.slice (some ⟨g,o,none⟩) EN ec) (some (.int .i64 (K:Int))) none none).run Tryz.prog u=.ok (.slice (some ⟨g,o+K*7,none⟩) (EN-K) (ec-K)) u:=by
 have h7:(sizeOf 118).run Tryz.prog u=.ok 7 u:=by kernel_rfl
 have hel:Tryz.prog.elem 34=118:=by kernel_rfl
 rw [run_slice_l u 34 (some ⟨g,o,none⟩) EN ec (by rw [hel];exact Tryz.underlying34) .i64 (K:Int) (by omega) (by omega)];rw [hel,h7];simp only [Result.andThen,sliced];rw [show ((K:Int)).toNat=K by omega,if_neg (by omega)];simp [Z1h]
theorem Es.dropE {w:World}{g o n c:Nat}{l:List Ent}(h:Es w (.slice (some ⟨g,o,none⟩) n c) l)(K:Nat)(hK:K<l.length)(c':Nat):Es w (.slice (some ⟨g,o+K*7,none⟩) (l.drop K).length c') (l.drop K):=by
 obtain ⟨hl,hf,a1,c1,e,hc⟩:=h;simp only [Value.slice.injEq] at e;obtain ⟨rfl,-,rfl⟩:=e;refine ⟨by rw [List.length_drop];omega,fun e he=>hf e (List.mem_of_mem_drop he),_,_,rfl,fun i hi=>?_⟩;obtain ⟨b,off,e,hj⟩:=hc 0 (by omega);simp only [Option.some.injEq,Addr.mk.injEq,and_true] at e;obtain ⟨rfl,rfl⟩:=e;refine ⟨g,o+K*7,rfl,fun j h=>?_⟩;have:=hj (K+j) (by rw [List.length_drop] at h;omega);rw [List.getElem_drop];rw [show o+K*7+j*7=o+(K+j)*7 by omega];exact this
theorem join_any (b:Nat)(r:Rn)(x:CV)(m:Mg)(ea:Option Addr)(ec LI:Nat)(w:World)(B:Nat)(h:Z0 w B b r x)(hc:r.code=0)(hl:x.L.length<=900)(hll:r.n.log.length<=4096)(he:Es w (.slice ea m.es.length ec) m.es)(hlo:∀ k,(Value.slice ea m.es.length ec).ownBlock=some k->k<B)(hec:m.es.length<=ec)(hel:m.es.length<=1048576)(hLI:m.li=(LI:Int))(hLI2:LI<=4096)(hlt0:m.li=0->m.lt=0) :
  Calls Tryz.prog 172 #[.pointer (some ⟨b,0,none⟩),.agg #[.int .i64 m.ki,.int .i64 m.fr,.int .i64 m.td,.int .i64 m.tm,.int .i64 m.li,.int .i64 m.lt,.int .i64 m.cm,.int .i64 m.ok,.int .i64 m.hi,.slice ea m.es.length ec]] w fun e w'=>e=.returned (.int .i64 (r.join m).code)/\∃ x',Z0 w' B b (r.join m) x'/\Tch b w x w' x':=by
 have hBw:B<=w.heap.size:=Nat.le_trans h.lo (Nat.le_of_lt h.lt);have HEe:Hid (∀ z,Below B w z->Es z (.slice ea m.es.length ec) m.es):=fun z hz=>he.elder hlo hz
 obtain ⟨EN,hEN⟩:∃ EN,EN=m.es.length:=⟨_,rfl⟩;have HEN:Hid _:=hEN;rw [<-hEN] at hec hel HEe ⊢;obtain ⟨la,lc,hvl⟩:=h.log.shape;have hcap:r.n.log.length<=lc:=by have h9:=h.log;rw [hvl] at h9;exact h9.capI
 obtain ⟨LN,hLN⟩:∃ LN,LN=r.n.log.length:=⟨_,rfl⟩;have HLN:Hid _:=hLN;rw [<-hLN] at hvl hcap hll;have HVl:Hid (x.vl=.slice la LN lc):=hvl;obtain ⟨W,hW⟩:∃ W,W=w.alloc (.cells #[.int .i64 m.ki,.int .i64 m.fr,.int .i64 m.td,.int .i64 m.tm,.int .i64 m.li,.int .i64 m.lt,.int .i64 m.cm,.int .i64 m.ok,.int .i64 m.hi,.slice ea EN ec] 43):=⟨_,rfl⟩;have HBW:Hid (Below w.heap.size w W):=by unfold Hid;rw [hW];exact Below.alloc0 _
 have HMW:Hid (Blk W w.heap.size #[.int .i64 m.ki,.int .i64 m.fr,.int .i64 m.td,.int .i64 m.tm,.int .i64 m.li,.int .i64 m.lt,.int .i64 m.cm,.int .i64 m.ok,.int .i64 m.hi,.slice ea EN ec] 43):=by unfold Hid;rw [hW];exact Blk.new _ _ _
 have HCW:Hid (Z0 W B b r x):=h.below HBW.out;have d4:W.cell? ⟨b,4,none⟩=some (.int .i64 r.n.tm):=HCW.out.blk.cell 4;have m4:W.cell? ⟨w.heap.size,4,none⟩=some (.int .i64 m.li):=HMW.out.cell 4;have HnMw:Hid (¬ x.has b w.heap.size):=h.hasnt_new (Nat.le_refl _);have hblt:=h.lt;have hbW:b<W.heap.size:=HCW.out.lt;have hwW0:w.heap.size<W.heap.size:=HMW.out.lt
 have HJ:Hid (r.join m=if joB r.n m=true then r.send ⟨6,0,m.fr,r.n.tm,m.li,0,0,0,min (LN:Int) (m.li-1),[]⟩ else if Y0 r.n.log LI m.es<EN/\m.li+Y0 r.n.log LI m.es+1<=r.n.cm then r.stale else Rn.send { r with n:={ r.n with log:=if Y0 r.n.log LI m.es<EN then r.n.log.take (LI+Y0 r.n.log LI m.es) ++ m.es.drop (Y0 r.n.log LI m.es) else r.n.log,cm:=max r.n.cm (min m.cm (m.li+EN)) } } ⟨6,0,m.fr,r.n.tm,m.li+EN,0,0,1,0,[]⟩):=by
  unfold Hid Rn.join;have e1:m.li.toNat=LI:=by omega
  have e2:=joB_iff r.n m (by omega) hlt0;by_cases h9:joB r.n m=true
  ·rw [if_pos (e2.1 h9),if_pos h9,hLN]
  ·rw [if_neg (fun h8=>h9 (e2.2 h8)),if_neg h9,e1,hEN]
 obtain ⟨RP,hRP⟩:∃ RP,RP=r.join m:=⟨_,rfl⟩;rw [<-hRP] at HJ ⊢;have HLI:Hid (m.li=(LI:Int)):=hLI;have hli0:0<=m.li:=by omega
 have hli1:m.li<=4096:=by omega
 clear h hvl he hEN hLN hlo hRP hlt0 hLI;go_enter Tryz.func172,Tryz.ntmps172
 go_upto_region 1 with fail
 rw [<-hW];clear hW
 go_cut [5] (fun s5 z=>s5=.pointer (some ⟨W.heap.size,0,none⟩)/\Blk z W.heap.size #[.int .i64 6,.int .i64 0,.int .i64 0,.int .i64 r.n.tm,.int .i64 m.li,.int .i64 0,.int .i64 0,.int .i64 0,.int .i64 0,.slice none 0 0] 43/\Below W.heap.size W z)
 case first=>
  go_region_held3 (fun w'=>w'.cell? ⟨b,4,none⟩=some (.int .i64 r.n.tm)/\w'.cell? ⟨w.heap.size,4,none⟩=some (.int .i64 m.li)) (simp [*,go_sem]) (first | fail)
  all_goals (
   go_wp2_with fail
   go_meet
   first
    | exact ⟨rfl,(Blk.new _ _ _).drew,(Below.alloc0 _).drew⟩
    | exact ⟨rfl,Blk.new _ _ _,((Below.refl _ _).drew).alloc (Nat.le_refl _) _⟩
    | exact ⟨rfl,Blk.new _ _ _,Below.alloc0 _⟩)
 case rest=>
  obtain ⟨rfl,hRV,hBV⟩:=hcut;obtain ⟨V,hV⟩:∃ z,z=wc:=⟨_,rfl⟩;rw [<-hV] at hRV hBV;subst hV;have HBV:Hid _:=hBV;have HRV:Hid (Blk V W.heap.size _ 43):=hRV;have HCV:Hid (Z0 V B b r x):=HCW.out.below hBV;have HMV:Hid (Blk V w.heap.size _ 43):=HMW.out.below hBV HMW.out.lt;have HnR:Hid (¬ x.has b W.heap.size):=HCW.out.hasnt_new (Nat.le_refl _);have HnM:Hid (¬ x.has b w.heap.size):=HnMw.out;have hwW:w.heap.size<W.heap.size:=HMW.out.lt;have hnn:¬ w.heap.size=W.heap.size:=by omega
  clear hRV hBV d4 m4;have q12:∀ u:BW V,u.w.cell? ⟨b,12,none⟩=some (.slice la LN lc):=fun u=>by rw [<-HVl.out];exact (HCV.out.below u.h).blk.cell 12
  have q4:∀ u:BW V,u.w.cell? ⟨w.heap.size,4,none⟩=some (.int .i64 m.li):=fun u=>(HMV.out.below u.h HMV.out.lt).cell 4
  have q5:∀ u:BW V,u.w.cell? ⟨w.heap.size,5,none⟩=some (.int .i64 m.lt):=fun u=>(HMV.out.below u.h HMV.out.lt).cell 5
  have NEV:Nonempty (BW V):=⟨⟨V,Below.refl _ _⟩⟩;obtain ⟨VB,hVB⟩:∃ VB,VB=joB r.n m:=⟨_,rfl⟩;rw [<-hVB] at HJ;have HVB:Hid (VB=(decide ((LN:Int)<m.li) || (Yb r.n.log LI != m.lt))):=by unfold Hid;rw [hVB,HLN.out,show LI=m.li.toNat from by have:=HLI.out;omega];rfl
  clear hVB
  have HLt:Hid (LI<=LN->∀ z,Below V.heap.size V z->Calls Tryz.prog 180 #[.slice la LI lc] z fun e w'=>e=.returned (.int .i64 (Yb r.n.log LI))/\w'=z):=fun hle z hz=>by
   rw [<-Z4p _ _ (by rw [<-HLN.out];exact hle)];refine Z0i _ _ _ (Es.takeI (n:=LN) ?_ LI (by rw [<-HLN.out];exact hle));rw [<-HVl.out];exact (HCV.out.below hz).es (by rw [<-HLN.out];exact hll)
  go_upto_region 2 with fail
  go_cut [38] (fun s z=>s=.bool VB/\Below V.heap.size V z)
  case first=>
   by_cases h1:(LN:Int)<m.li
   ·have h1d:decide ((LN:Int)<m.li)=true:=decide_eq_true h1
    refine wp_region_quiet (C:=fun w'=>∃ u:BW V,w'=u.w) (by kernel_rfl) (by kernel_rfl) ⟨⟨_,(Below.refl _ _).drew⟩,rfl⟩ ?_;rw [List.toList_toArray]
    repeat (first | go_big_quiet_step ((fail)))
    refine wpQuiet_nil ?_;intro w5 hww5;have hb_w5:Below V.heap.size V w5:=(by obtain ⟨u,rfl⟩:=hww5;exact u.h);clear hww5
    go_wp2_with fail
    go_meet;exact ⟨by rw [HVB.out,h1d];rfl,hb_w5⟩
   ·have h1d:decide ((LN:Int)<m.li)=false:=decide_eq_false h1
    have HLt2:Hid (∀ z,Below V.heap.size V z->Calls Tryz.prog 180 #[.slice la LI lc] z fun e w'=>e=.returned (.int .i64 (Yb r.n.log LI))/\w'=z):=HLt.out (by have:=HLI.out;omega);have g2:m.li<=(lc:Int):=by omega
    have g3:m.li.toNat=LI:=by have:=HLI.out;omega
    clear HLt;refine wp_region_quiet (C:=fun w'=>∃ u:BW V,w'=u.w) (by kernel_rfl) (by kernel_rfl) ⟨⟨_,(Below.refl _ _).drew⟩,rfl⟩ ?_;rw [List.toList_toArray]
    repeat (first | go_big_quiet_step ((go_at_call 180;refine Calls.mono (HLt2.out _ (BW.h _)) ?_;rintro e w9 ⟨rfl,hw9⟩;have hw9b:=hw9.symm;subst hw9b;exact ⟨rfl,⟨_,rfl⟩⟩)))
    refine wpQuiet_nil ?_;intro w5 hww5;have hb_w5:Below V.heap.size V w5:=(by obtain ⟨u,rfl⟩:=hww5;exact u.h);clear hww5
    go_wp2_with fail
    go_meet;exact ⟨by rw [HVB.out,h1d];rfl,hb_w5⟩
  case rest=>
   obtain ⟨rfl,hB6⟩:=hcut;obtain ⟨w6,hw6⟩:∃ z,z=wc:=⟨_,rfl⟩;rw [<-hw6] at hB6;subst hw6;have HB6:Hid _:=hB6;have HC6:Hid (Z0 w6 B b r x):=HCV.out.below hB6;have HM6:Hid (Blk w6 w.heap.size _ 43):=HMV.out.below hB6 HMV.out.lt;have HR6:Hid (Blk w6 W.heap.size _ 43):=HRV.out.below hB6 HRV.out.lt;have HTV:Hid (Tch b w x V x):=Tch.below0 _ _ (HBW.out.trans (HBV.out.mono HBW.out.size));have HTV6:Hid (Tch b V x w6 x):=Tch.below0 _ _ HB6.out;have HSe:Hid (∀ z R X l k h9,Z0 z B b R X->X.L.length<=900->Calls Tryz.prog 165 #[.pointer (some ⟨b,0,none⟩),.int .i64 m.fr,.agg #[.int .i64 6,.int .i64 0,.int .i64 0,.int .i64 r.n.tm,.int .i64 l,.int .i64 0,.int .i64 0,.int .i64 k,.int .i64 h9,.slice none 0 0]] z fun e w'=>e=.returned (.tuple #[])/\∃ v y,Z0 w' B b (R.send ⟨6,0,m.fr,r.n.tm,l,0,0,k,h9,[]⟩) (X.sent v y)/\Tch b z X w' (X.sent v y)):=fun z R X l k h9 hz hX=>Z1g b R X ⟨6,0,0,r.n.tm,l,0,0,k,h9,[]⟩ m.fr none 0 z B hz (Zd.nil _ _) (fun k e=>by cases e) (by omega)
   clear q12 q4 q5 NEV HLt hB6;have G1:Hid True:=trivial;have HKc:Hid (r.code=0):=hc;by_cases hv:VB=true
   ·have HRP:Hid (RP=r.send ⟨6,0,m.fr,r.n.tm,m.li,0,0,0,min (LN:Int) (m.li-1),[]⟩):=HJ.out.trans (if_pos hv)
    rw [hv];have q12:∀ u:BW w6,u.w.cell? ⟨b,12,none⟩=some (.slice la LN lc):=fun u=>by rw [<-HVl.out];exact (HC6.out.below u.h).blk.cell 12
    have q4:∀ u:BW w6,u.w.cell? ⟨w.heap.size,4,none⟩=some (.int .i64 m.li):=fun u=>(HM6.out.below u.h HM6.out.lt).cell 4
    have NE6:Nonempty (BW w6):=⟨⟨w6,Below.refl _ _⟩⟩;have hwl:IntKind.i64.wrap (m.li-1)=m.li-1:=by rw [IntKind.wrap_i64];omega
    have hmn:(if m.li-1<(LN:Int) then m.li-1 else (LN:Int))=min (LN:Int) (m.li-1):=by split <;> omega
    obtain ⟨MN,hMN⟩:∃ MN,MN=min (LN:Int) (m.li-1):=⟨_,rfl⟩;rw [<-hMN] at hmn HRP;have HnR6:Hid (∀ p∈x.L,p.v.ownBlock≠some W.heap.size):=HC6.out.entNe HR6.out (by decide)
    have HSt:Hid (∀ z,Below w6.heap.size w6 z->z.cell? ⟨W.heap.size,8,none⟩=some (.int .i64 0)/\z.frozen? ⟨W.heap.size,8,none⟩=false/\Z0 (z.setCell ⟨W.heap.size,8,none⟩ (.int .i64 MN)) B b r x/\Tch b W x (z.setCell ⟨W.heap.size,8,none⟩ (.int .i64 MN)) x/\Blk (z.setCell ⟨W.heap.size,8,none⟩ (.int .i64 MN)) W.heap.size #[.int .i64 6,.int .i64 0,.int .i64 0,.int .i64 r.n.tm,.int .i64 m.li,.int .i64 0,.int .i64 0,.int .i64 0,.int .i64 MN,.slice none 0 0] 43/\Blk (z.setCell ⟨W.heap.size,8,none⟩ (.int .i64 MN)) w.heap.size #[.int .i64 m.ki,.int .i64 m.fr,.int .i64 m.td,.int .i64 m.tm,.int .i64 m.li,.int .i64 m.lt,.int .i64 m.cm,.int .i64 m.ok,.int .i64 m.hi,.slice ea EN ec] 43):=fun z hz=>by
     have hT:=(Tch.head HBV.out HTV6.out).tail hz;refine ⟨(HR6.out.below hz HR6.out.lt).cell 8,(HR6.out.below hz HR6.out.lt).free 8,(HC6.out.below hz).setOut _ 8 _ HnR.out HnR6.out,?_,(HR6.out.below hz HR6.out.lt).set 8 _,(HM6.out.below hz HM6.out.lt).set_other _ hnn⟩;exact ⟨hT.os,hT.tape,hT.output,by have:=hT.size;simp [World.setCell];omega,fun k hk hn=>(Below.heap_setCell _ _ _ _ (by simp only;omega)).trans (hT.block k hk hn),hT.at'⟩
    clear HJ hv HVB hMN
    go_upto_region 3 with fail
    go_cut [] (fun z=>Z0 z B b r x/\Tch b W x z x/\Blk z W.heap.size #[.int .i64 6,.int .i64 0,.int .i64 0,.int .i64 r.n.tm,.int .i64 m.li,.int .i64 0,.int .i64 0,.int .i64 0,.int .i64 MN,.slice none 0 0] 43/\Blk z w.heap.size #[.int .i64 m.ki,.int .i64 m.fr,.int .i64 m.td,.int .i64 m.tm,.int .i64 m.li,.int .i64 m.lt,.int .i64 m.cm,.int .i64 m.ok,.int .i64 m.hi,.slice ea EN ec] 43)
    case first=>
     refine Zn (C:=fun w'=>∃ u:BW w6,w'=u.w) _ (by kernel_rfl) rfl (by kernel_rfl) ⟨⟨_,(Below.refl _ _).drew⟩,rfl⟩ ?_;simp only [List.dropLast_cons_cons,List.dropLast_singleton]
     repeat (first | go_big_quiet_step ((fail)))
     refine wpQuiet_nil ?_;intro wl hwwl;have hb_wl:Below w6.heap.size w6 wl:=(by obtain ⟨u,rfl⟩:=hwwl;exact u.h);clear hwwl;obtain ⟨e1,e2,e3,e4,e5,e6⟩:=HSt.out wl hb_wl;refine Xm (.tmp 49) (.tmp 48) rfl rfl rfl e1 e2 rfl ?_;have HF:Hid _:=And.intro e3 (And.intro e4 (And.intro e5 e6));clear e1 e2 e3 e4 e5 e6
     go_wp2_with fail
     go_meet;exact HF.out
    case rest=>
     obtain ⟨hCc,hTc,hRc,hMc⟩:=hcut;obtain ⟨wn,hwn⟩:∃ z,z=wc:=⟨_,rfl⟩;rw [<-hwn] at hRc hMc hCc hTc;subst hwn;have HRn:Hid (Blk wn W.heap.size _ 43):=hRc;have HCn:Hid _:=hCc;have HTn:Hid _:=hTc;have s1:wn.cell? ⟨w.heap.size,1,none⟩=some (.int .i64 m.fr):=hMc.cell 1;clear hRc hMc hCc hTc q12 q4 NE6
     go_wp2_with (first
      |(have hBA:=G1;refine Z7 43 (.tmp 5) rfl ?_;clear hBA;refine Z3 rfl 43 (.tmp 5) rfl W.heap.size rfl HRn.out Tryz.underlying43 rfl Zy rfl ?_;clear G1)
      |(go_at_call 165;refine Calls.mono (HSe.out _ _ _ _ _ _ HCn.out hl) ?_;rintro e wz ⟨rfl,vz,yz,hz,tz⟩;have HZ:Hid (Z0 wz B b RP (x.sent vz yz)):=(by unfold Hid;rw [HRP.out];exact hz);have TZ:Hid (Tch b w x wz (x.sent vz yz)):=Tch.head HBW.out (HTn.out.trans tz);clear hz tz))
     go_ret;exact ⟨by rw [HRP.out];exact congrArg (fun c=>Ending.returned (.int .i64 c)) HKc.out.symm,_,HZ.out,TZ.out⟩
   have hvf:VB=false:=by simpa using hv
   have HJ2:Hid _:=HJ.out.trans (if_neg hv)
   have hLL:LI<=LN:=by
    have h9:=HVB.out;rw [hvf] at h9;have h8:=Bool.or_eq_false_iff.1 h9.symm;have h7:=of_decide_eq_false h8.1;have:=HLI.out;omega
   obtain ⟨K,hK⟩:∃ K,K=Y0 r.n.log LI m.es:=⟨_,rfl⟩;have HK:Hid _:=hK;rw [<-hK] at HJ2;have hKE:K<=EN:=by rw [hK,HEN.out];exact Z5g _ _ _
   have hKL:LI+K<=LN:=by rw [hK,HLN.out];exact parts_le _ _ _ (by rw [<-HLN.out];exact hLL)
   have HKn:Hid (Calls Tryz.prog 181 #[.pointer (some ⟨b,0,none⟩),.agg #[.int .i64 m.ki,.int .i64 m.fr,.int .i64 m.td,.int .i64 m.tm,.int .i64 m.li,.int .i64 m.lt,.int .i64 m.cm,.int .i64 m.ok,.int .i64 m.hi,.slice ea EN ec]] w6 fun e w'=>e=.returned (.int .i64 (K:Int))/\Below w6.heap.size w6 w'):=by
    unfold Hid;rw [hK];have h9:=known_any b r x m ea ec LI w6 B HC6.out (by rw [<-HLN.out];exact hll) (by have h8:=HEe.out w6 ((HBW.out.mono hBw).trans (((HBV.out.mono (by have:=HBW.out.size;omega)).trans (HB6.out.mono (by have:=HBW.out.size;have:=HBV.out.size;omega)))));rw [HEN.out] at h8;exact h8) (by rw [<-HEN.out];exact hel) HLI.out (by rw [<-HLN.out];exact hLL);rw [<-HEN.out] at h9;exact h9
   rw [hvf];clear HJ hv hvf HVB hK;have HC7:Hid (∀ z,Below w6.heap.size w6 z->Z0 z B b r x/\Blk z w.heap.size #[.int .i64 m.ki,.int .i64 m.fr,.int .i64 m.td,.int .i64 m.tm,.int .i64 m.li,.int .i64 m.lt,.int .i64 m.cm,.int .i64 m.ok,.int .i64 m.hi,.slice ea EN ec] 43/\Tch b V x z x/\z.cell? ⟨w.heap.size,9,none⟩=some (.slice ea EN ec)/\z.cell? ⟨w.heap.size,4,none⟩=some (.int .i64 m.li)/\z.cell? ⟨b,8,none⟩=some (.int .i64 r.n.cm)):=fun z hz=>⟨HC6.out.below hz,HM6.out.below hz HM6.out.lt,HTV6.out.tail hz,(HM6.out.below hz HM6.out.lt).cell 9,(HM6.out.below hz HM6.out.lt).cell 4,(HC6.out.below hz).blk.cell 8⟩
   have hwk:IntKind.i64.wrap (m.li+(K:Int))=m.li+(K:Int):=by rw [IntKind.wrap_i64];omega
   by_cases hKe:K<EN
   ·have hKd:decide ((K:Int)<(EN:Int))=true:=decide_eq_true (by omega)
    by_cases hcm:m.li+(K:Int)<r.n.cm
    ·have HRP:Hid (RP=r.stale):=HJ2.out.trans (if_pos ⟨hKe,by omega⟩)
     have hcd:decide (m.li+(K:Int)<r.n.cm)=true:=decide_eq_true hcm;clear HJ2 hcm
     go_wp2_with (first
      |(have hBA:=G1;refine Z7 43 (.tmp 3) rfl ?_;clear hBA;refine Z3 rfl 43 (.tmp 3) rfl w.heap.size rfl HM6.out Tryz.underlying43 rfl Zy rfl ?_;clear G1)
      |(go_at_call 181;refine Calls.mono HKn.out ?_;rintro e w7 ⟨rfl,hb7⟩;obtain ⟨h7,-,t7,e9,e4,e8⟩:=HC7.out w7 hb7;have H7:Hid _:=h7;have T7:Hid _:=t7;clear hb7 h7 t7))
     go_ret;exact ⟨by rw [HRP.out];rfl,x,by rw [HRP.out];exact H7.out.codeQ 3,Tch.head (HBW.out.trans (HBV.out.mono HBW.out.size)) T7.out⟩
    ·have hcd:decide (m.li+(K:Int)<r.n.cm)=false:=decide_eq_false hcm
     have hcn:¬(K<EN/\m.li+(K:Int)+1<=r.n.cm):=fun h9=>hcm (by omega)
     obtain ⟨R2,hR2⟩:∃ R2:Rn,R2={ r with n:={ r.n with log:=r.n.log.take (LI+K) ++ m.es.drop K } }:=⟨_,rfl⟩
     have HRP:Hid (RP=Rn.send { R2 with n:={ R2.n with cm:=max r.n.cm (min m.cm (m.li+(EN:Int))) } } ⟨6,0,m.fr,r.n.tm,m.li+EN,0,0,1,0,[]⟩):=by
      unfold Hid;rw [hR2];exact (HJ2.out.trans (if_neg hcn)).trans (by rw [if_pos hKe])
     have HRc:Hid (R2.n.cm=r.n.cm):=by unfold Hid;rw [hR2]
     have HKc:Hid (R2.code=0):=by unfold Hid;rw [hR2];exact hc
     have hea:∃ g o,ea=some ⟨g,o,none⟩:=by
      obtain ⟨_,_,a',c',e1,hcc⟩:=HEe.out w (Below.refl _ _);simp only [Value.slice.injEq] at e1;obtain ⟨rfl,-,rfl⟩:=e1;obtain ⟨g,o,e2,-⟩:=hcc 0 (by rw [<-HEN.out];omega);exact ⟨g,o,e2⟩
     obtain ⟨eg,eo,rfl⟩:=hea;have hsl:∀ u,(Instr.slice 34 (.slice (some ⟨eg,eo,none⟩) EN ec) (some (.int .i64 (K:Int))) none none).run Tryz.prog u=.ok (.slice (some ⟨eg,eo+K*7,none⟩) (EN-K) (ec-K)) u:=fun u=>run_sliceLo u eg eo EN ec K hKe hec
     have HRe:Hid (∀ z,Below w6.heap.size w6 z->Calls Tryz.prog 182 #[.pointer (some ⟨b,0,none⟩),.int .i64 (m.li+(K:Int)),.slice (some ⟨eg,eo+K*7,none⟩) (EN-K) (ec-K)] z fun e w'=>e=.returned (.tuple #[])/\∃ v,Z0 w' B b R2 { x with vl:=v,kp:=((LI+K:Nat):Int) }/\Tch b z x w' { x with vl:=v,kp:=((LI+K:Nat):Int) }):=fun z hz=>by
      have hbz:Below B w z:=(HBW.out.mono hBw).trans (((HBV.out.mono (by have:=HBW.out.size;omega)).trans (HB6.out.mono (by have:=HBW.out.size;have:=HBV.out.size;omega))).trans (hz.mono (by have:=HBW.out.size;have:=HBV.out.size;have:=HB6.out.size;omega)));have h9:=replace_any b r x (LI+K) ⟨eg,eo+K*7,none⟩ (ec-K) (m.es.drop K) z B (HC6.out.below hz) (by rw [<-HLN.out];exact hll) (by rw [<-HLN.out];exact hKL) ((HEe.out z hbz).dropE K (by rw [<-HEN.out];exact hKe) _) (by rw [List.length_drop,<-HEN.out];omega) (by rw [List.length_drop,<-HEN.out];omega);rw [List.length_drop,<-HEN.out] at h9;rw [hR2];have e1:m.li+(K:Int)=((LI+K:Nat):Int):=by have:=HLI.out;push_cast;omega
      rw [e1];exact h9
     clear HJ2 hcm hcn hR2
     go_upto_region 12 with (first
      |(have hBA:=G1;refine Z7 43 (.tmp 3) rfl ?_;clear hBA;refine Z3 rfl 43 (.tmp 3) rfl w.heap.size rfl HM6.out Tryz.underlying43 rfl Zy rfl ?_;clear G1)
      |(go_at_call 181;refine Calls.mono HKn.out ?_;rintro e w7 ⟨rfl,hb7⟩;obtain ⟨h7,-,t7,e9,e4,e8⟩:=HC7.out w7 hb7;have H7:Hid _:=h7;have T7:Hid _:=t7;have HB7:Hid _:=hb7;clear hb7 h7 t7)
      |(go_at_call 182;refine Calls.mono (HRe.out _ HB7.out) ?_;rintro e w8 ⟨rfl,v8,h8,t8⟩;have HC8:Hid _:=h8;have HT8:Hid _:=T7.out.trans t8;clear h8 t8))
     obtain ⟨X2,hX2⟩:∃ X2:CV,X2={ x with vl:=v8,kp:=((LI+K:Nat):Int) }:=⟨_,rfl⟩;rw [<-hX2] at HC8 HT8;have HCz:Hid (Z0 w8 B b R2 X2):=HC8.out;have HTz:Hid (Tch b V x w8 X2):=HT8.out;have HXz:Hid (X2.L.length<=900):=by unfold Hid;rw [hX2];exact hl
     have HKq:Hid (∀ z,z=w8->True):=fun _ _=>trivial
     clear hX2 HC8 HT8 e9 e4 e8;have G1:Hid True:=trivial;have HRz:Hid (Blk w8 W.heap.size _ 43):=HTz.out.blk HRV.out HnR.out;have HMz:Hid (Blk w8 w.heap.size _ 43):=HTz.out.blk HMV.out HnM.out;have hzR:W.heap.size<w8.heap.size:=HRz.out.lt;have z4:w8.cell? ⟨w.heap.size,4,none⟩=some (.int .i64 m.li):=HMz.out.cell 4;have z9:w8.cell? ⟨w.heap.size,9,none⟩=some (.slice (some ⟨eg,eo,none⟩) EN ec):=HMz.out.cell 9;have y7:w8.cell? ⟨W.heap.size,7,none⟩=some (.int .i64 0):=HRz.out.cell 7;have y4:w8.cell? ⟨W.heap.size,4,none⟩=some (.int .i64 m.li):=HRz.out.cell 4;have yf7:w8.frozen? ⟨W.heap.size,7,none⟩=false:=HRz.out.free 7;have yf4:w8.frozen? ⟨W.heap.size,4,none⟩=false:=HRz.out.free 4;have HnRz:Hid (¬ X2.has b W.heap.size):=HTz.out.hasnt HRV.out.lt HnR.out;have HEnt:Hid (∀ p∈X2.L,p.v.ownBlock≠some W.heap.size):=HCz.out.entNe HRz.out (by decide);have hwlE:IntKind.i64.wrap (m.li+(EN:Int))=m.li+(EN:Int):=by rw [IntKind.wrap_i64];omega
     have HTW:Hid (Tch b W x w8 X2):=Tch.head HBV.out HTz.out
     go_cut [] (fun z=>Blk z W.heap.size #[.int .i64 6,.int .i64 0,.int .i64 0,.int .i64 r.n.tm,.int .i64 (m.li+(EN:Int)),.int .i64 0,.int .i64 0,.int .i64 1,.int .i64 0,.slice none 0 0] 43/\Blk z w.heap.size #[.int .i64 m.ki,.int .i64 m.fr,.int .i64 m.td,.int .i64 m.tm,.int .i64 m.li,.int .i64 m.lt,.int .i64 m.cm,.int .i64 m.ok,.int .i64 m.hi,.slice (some ⟨eg,eo,none⟩) EN ec] 43/\Z0 z B b R2 X2/\Tch b W x z X2)
     case first=>
      have HF:Hid (∀ z,Below w8.heap.size w8 z->Blk ((z.setCell ⟨W.heap.size,7,none⟩ (.int .i64 1)).setCell ⟨W.heap.size,4,none⟩ (.int .i64 (m.li+(EN:Int)))) W.heap.size #[.int .i64 6,.int .i64 0,.int .i64 0,.int .i64 r.n.tm,.int .i64 (m.li+(EN:Int)),.int .i64 0,.int .i64 0,.int .i64 1,.int .i64 0,.slice none 0 0] 43/\Blk ((z.setCell ⟨W.heap.size,7,none⟩ (.int .i64 1)).setCell ⟨W.heap.size,4,none⟩ (.int .i64 (m.li+(EN:Int)))) w.heap.size #[.int .i64 m.ki,.int .i64 m.fr,.int .i64 m.td,.int .i64 m.tm,.int .i64 m.li,.int .i64 m.lt,.int .i64 m.cm,.int .i64 m.ok,.int .i64 m.hi,.slice (some ⟨eg,eo,none⟩) EN ec] 43/\Z0 ((z.setCell ⟨W.heap.size,7,none⟩ (.int .i64 1)).setCell ⟨W.heap.size,4,none⟩ (.int .i64 (m.li+(EN:Int)))) B b R2 X2/\Tch b W x ((z.setCell ⟨W.heap.size,7,none⟩ (.int .i64 1)).setCell ⟨W.heap.size,4,none⟩ (.int .i64 (m.li+(EN:Int)))) X2):=fun z hz=>by
       have hR:=HRz.out.below hz HRz.out.lt;have hM:=HMz.out.below hz HMz.out.lt;refine ⟨(hR.set 7 _).set 4 _,(hM.set_other _ hnn).set_other _ hnn,((HCz.out.below hz).setOut _ 7 _ HnRz.out HEnt.out).setOut _ 4 _ HnRz.out HEnt.out,?_⟩;have hT:=HTW.out.tail hz;exact ⟨hT.os,hT.tape,hT.output,by have:=hT.size;simp [World.setCell];omega,fun k hk hn=>((Below.heap_setCell _ _ _ _ (by simp only;omega)).trans (Below.heap_setCell _ _ _ _ (by simp only;omega))).trans (hT.block k hk hn),hT.at'⟩
      go_region
      all_goals go_wp2_with fail
      all_goals (
       go_meet
       first
        | exact HF.out _ (Below.refl _ _)
        | exact HF.out _ ((Below.refl _ _).drew))
     case rest=>
      obtain ⟨hRc,hMc,hCc,hTc⟩:=hcut;obtain ⟨wk,hwk⟩:∃ z,z=wc:=⟨_,rfl⟩;rw [<-hwk] at hRc hMc hCc hTc;subst hwk;have HRk:Hid (Blk wk W.heap.size _ 43):=hRc;have HMk:Hid (Blk wk w.heap.size _ 43):=hMc;have HCk:Hid _:=hCc;have HTk:Hid _:=hTc;have v8:∀ u:BW wk,u.w.cell? ⟨b,8,none⟩=some (.int .i64 r.n.cm):=fun u=>by first | exact (HCk.out.below u.h).blk.cell 8 | (rw [<-HRc.out];exact (HCk.out.below u.h).blk.cell 8)
      have v6:∀ u:BW wk,u.w.cell? ⟨w.heap.size,6,none⟩=some (.int .i64 m.cm):=fun u=>(HMk.out.below u.h HMk.out.lt).cell 6
      have v4:∀ u:BW wk,u.w.cell? ⟨W.heap.size,4,none⟩=some (.int .i64 (m.li+(EN:Int))):=fun u=>(HRk.out.below u.h HRk.out.lt).cell 4
      have NEk:Nonempty (BW wk):=⟨⟨wk,Below.refl _ _⟩⟩;have hmn:(if m.li+(EN:Int)<m.cm then m.li+(EN:Int) else m.cm)=min m.cm (m.li+(EN:Int)):=by split <;> omega
      obtain ⟨MN,hMN⟩:∃ MN,MN=min m.cm (m.li+(EN:Int)):=⟨_,rfl⟩;obtain ⟨CX,hCX⟩:∃ CX,CX=max r.n.cm MN:=⟨_,rfl⟩;have hmx:(if r.n.cm<MN then MN else r.n.cm)=CX:=by rw [hCX];split <;> omega
      have hmx2:(if MN<r.n.cm then r.n.cm else MN)=CX:=by rw [hCX];split <;> omega
      rw [<-hMN] at hmn;have HRP2:Hid (RP=Rn.send { R2 with n:={ R2.n with cm:=CX } } ⟨6,0,m.fr,r.n.tm,m.li+EN,0,0,1,0,[]⟩):=by unfold Hid;rw [hCX,hMN];exact HRP.out
      have HSt:Hid (∀ z,Below wk.heap.size wk z->z.cell? ⟨b,8,none⟩=some (.int .i64 r.n.cm)/\z.frozen? ⟨b,8,none⟩=false/\Z0 (z.setCell ⟨b,8,none⟩ (.int .i64 CX)) B b { R2 with n:={ R2.n with cm:=CX } } X2/\Tch b W x (z.setCell ⟨b,8,none⟩ (.int .i64 CX)) X2/\Blk (z.setCell ⟨b,8,none⟩ (.int .i64 CX)) W.heap.size #[.int .i64 6,.int .i64 0,.int .i64 0,.int .i64 r.n.tm,.int .i64 (m.li+(EN:Int)),.int .i64 0,.int .i64 0,.int .i64 1,.int .i64 0,.slice none 0 0] 43/\Blk (z.setCell ⟨b,8,none⟩ (.int .i64 CX)) w.heap.size #[.int .i64 m.ki,.int .i64 m.fr,.int .i64 m.td,.int .i64 m.tm,.int .i64 m.li,.int .i64 m.lt,.int .i64 m.cm,.int .i64 m.ok,.int .i64 m.hi,.slice (some ⟨eg,eo,none⟩) EN ec] 43):=fun z hz=>
       ⟨v8 ⟨z,hz⟩,(HCk.out.below hz).blk.free 8,(HCk.out.below hz).set 8 _ rfl rfl rfl rfl rfl rfl rfl rfl rfl rfl Iff.rfl,(HTk.out.tail hz).trans (Tch.set _ _ _ _ _),(HRk.out.below hz HRk.out.lt).set_other _ (by simp only;omega),(HMk.out.below hz HMk.out.lt).set_other _ (by simp only;omega)⟩
      clear hRc hMc hCc hTc z4 z9 y7 y4 yf7 yf4 hMN hCX HRP
      go_upto_region 13 with fail
      go_cut [] (fun z=>Z0 z B b { R2 with n:={ R2.n with cm:=CX } } X2/\Tch b W x z X2/\Blk z W.heap.size #[.int .i64 6,.int .i64 0,.int .i64 0,.int .i64 r.n.tm,.int .i64 (m.li+(EN:Int)),.int .i64 0,.int .i64 0,.int .i64 1,.int .i64 0,.slice none 0 0] 43/\Blk z w.heap.size #[.int .i64 m.ki,.int .i64 m.fr,.int .i64 m.td,.int .i64 m.tm,.int .i64 m.li,.int .i64 m.lt,.int .i64 m.cm,.int .i64 m.ok,.int .i64 m.hi,.slice (some ⟨eg,eo,none⟩) EN ec] 43)
      case first=>
       refine Zn (C:=fun w'=>∃ u:BW wk,w'=u.w) _ (by kernel_rfl) rfl (by kernel_rfl) ⟨⟨_,(Below.refl _ _).drew⟩,rfl⟩ ?_;simp only [List.dropLast_cons_cons,List.dropLast_singleton]
       repeat (first | go_big_quiet_step ((fail)))
       refine wpQuiet_nil ?_;intro wl hwwl;have hb_wl:Below wk.heap.size wk wl:=(by obtain ⟨u,rfl⟩:=hwwl;exact u.h);clear hwwl;obtain ⟨e1,e2,e3,e4,e5,e6⟩:=HSt.out wl hb_wl;refine Xm (.tmp 103) (.tmp 100) rfl rfl rfl e1 e2 rfl ?_;have HF:Hid _:=And.intro e3 (And.intro e4 (And.intro e5 e6));clear e1 e2 e3 e4 e5 e6
       go_wp2_with fail
       go_meet;exact HF.out
      case rest=>
       obtain ⟨hCc,hTc,hRc,hMc⟩:=hcut;obtain ⟨wn,hwn⟩:∃ z,z=wc:=⟨_,rfl⟩;rw [<-hwn] at hRc hMc hCc hTc;subst hwn;have HRn:Hid (Blk wn W.heap.size _ 43):=hRc;have HCn:Hid _:=hCc;have HTn:Hid _:=hTc;have s1:wn.cell? ⟨w.heap.size,1,none⟩=some (.int .i64 m.fr):=hMc.cell 1;clear hRc hMc hCc hTc v8 v6 v4 NEk
       go_wp2_with (first
        |(have hBA:=G1;refine Z7 43 (.tmp 5) rfl ?_;clear hBA;refine Z3 rfl 43 (.tmp 5) rfl W.heap.size rfl HRn.out Tryz.underlying43 rfl Zy rfl ?_;clear G1)
        |(go_at_call 165;refine Calls.mono (HSe.out _ _ _ _ _ _ HCn.out HXz.out) ?_;rintro e wz ⟨rfl,vz,yz,hz,tz⟩;have HZ:Hid (Z0 wz B b RP (X2.sent vz yz)):=(by unfold Hid;rw [HRP2.out];exact hz);have TZ:Hid (Tch b w x wz (X2.sent vz yz)):=Tch.head HBW.out (HTn.out.trans tz);clear hz tz))
       go_ret;exact ⟨by rw [HRP2.out];exact congrArg (fun c=>Ending.returned (.int .i64 c)) HKc.out.symm,_,HZ.out,TZ.out⟩
   ·have hKd:decide ((K:Int)<(EN:Int))=false:=decide_eq_false (by omega)
    have HRP:Hid (RP=Rn.send { r with n:={ r.n with cm:=max r.n.cm (min m.cm (m.li+(EN:Int))) } } ⟨6,0,m.fr,r.n.tm,m.li+EN,0,0,1,0,[]⟩):=by
     unfold Hid;exact (HJ2.out.trans (if_neg (fun h9=>hKe h9.1))).trans (by rw [if_neg hKe])
    clear HJ2
    go_upto_region 12 with (first
     |(have hBA:=G1;refine Z7 43 (.tmp 3) rfl ?_;clear hBA;refine Z3 rfl 43 (.tmp 3) rfl w.heap.size rfl HM6.out Tryz.underlying43 rfl Zy rfl ?_;clear G1)
     |(go_at_call 181;refine Calls.mono HKn.out ?_;rintro e w8 ⟨rfl,hb7⟩;obtain ⟨h7,-,t7,e9,e4,e8⟩:=HC7.out w8 hb7;have HCz:Hid _:=h7;have HTz:Hid _:=t7;clear hb7 h7 t7))
    have HXz:Hid (x.L.length<=900):=hl;clear e8;have G1:Hid True:=trivial;have HRz:Hid (Blk w8 W.heap.size _ 43):=HTz.out.blk HRV.out HnR.out;have HMz:Hid (Blk w8 w.heap.size _ 43):=HTz.out.blk HMV.out HnM.out;have hzR:W.heap.size<w8.heap.size:=HRz.out.lt;have z4:w8.cell? ⟨w.heap.size,4,none⟩=some (.int .i64 m.li):=HMz.out.cell 4;have z9:w8.cell? ⟨w.heap.size,9,none⟩=some (.slice ea EN ec):=HMz.out.cell 9;have y7:w8.cell? ⟨W.heap.size,7,none⟩=some (.int .i64 0):=HRz.out.cell 7;have y4:w8.cell? ⟨W.heap.size,4,none⟩=some (.int .i64 m.li):=HRz.out.cell 4;have yf7:w8.frozen? ⟨W.heap.size,7,none⟩=false:=HRz.out.free 7;have yf4:w8.frozen? ⟨W.heap.size,4,none⟩=false:=HRz.out.free 4;have HnRz:Hid (¬ x.has b W.heap.size):=HTz.out.hasnt HRV.out.lt HnR.out;have HEnt:Hid (∀ p∈x.L,p.v.ownBlock≠some W.heap.size):=HCz.out.entNe HRz.out (by decide);have hwlE:IntKind.i64.wrap (m.li+(EN:Int))=m.li+(EN:Int):=by rw [IntKind.wrap_i64];omega
    have HTW:Hid (Tch b W x w8 x):=Tch.head HBV.out HTz.out
    go_cut [] (fun z=>Blk z W.heap.size #[.int .i64 6,.int .i64 0,.int .i64 0,.int .i64 r.n.tm,.int .i64 (m.li+(EN:Int)),.int .i64 0,.int .i64 0,.int .i64 1,.int .i64 0,.slice none 0 0] 43/\Blk z w.heap.size #[.int .i64 m.ki,.int .i64 m.fr,.int .i64 m.td,.int .i64 m.tm,.int .i64 m.li,.int .i64 m.lt,.int .i64 m.cm,.int .i64 m.ok,.int .i64 m.hi,.slice ea EN ec] 43/\Z0 z B b r x/\Tch b W x z x)
    case first=>
     have HF:Hid (∀ z,Below w8.heap.size w8 z->Blk ((z.setCell ⟨W.heap.size,7,none⟩ (.int .i64 1)).setCell ⟨W.heap.size,4,none⟩ (.int .i64 (m.li+(EN:Int)))) W.heap.size #[.int .i64 6,.int .i64 0,.int .i64 0,.int .i64 r.n.tm,.int .i64 (m.li+(EN:Int)),.int .i64 0,.int .i64 0,.int .i64 1,.int .i64 0,.slice none 0 0] 43/\Blk ((z.setCell ⟨W.heap.size,7,none⟩ (.int .i64 1)).setCell ⟨W.heap.size,4,none⟩ (.int .i64 (m.li+(EN:Int)))) w.heap.size #[.int .i64 m.ki,.int .i64 m.fr,.int .i64 m.td,.int .i64 m.tm,.int .i64 m.li,.int .i64 m.lt,.int .i64 m.cm,.int .i64 m.ok,.int .i64 m.hi,.slice ea EN ec] 43/\Z0 ((z.setCell ⟨W.heap.size,7,none⟩ (.int .i64 1)).setCell ⟨W.heap.size,4,none⟩ (.int .i64 (m.li+(EN:Int)))) B b r x/\Tch b W x ((z.setCell ⟨W.heap.size,7,none⟩ (.int .i64 1)).setCell ⟨W.heap.size,4,none⟩ (.int .i64 (m.li+(EN:Int)))) x):=fun z hz=>by
      have hR:=HRz.out.below hz HRz.out.lt;have hM:=HMz.out.below hz HMz.out.lt;refine ⟨(hR.set 7 _).set 4 _,(hM.set_other _ hnn).set_other _ hnn,((HCz.out.below hz).setOut _ 7 _ HnRz.out HEnt.out).setOut _ 4 _ HnRz.out HEnt.out,?_⟩;have hT:=HTW.out.tail hz;exact ⟨hT.os,hT.tape,hT.output,by have:=hT.size;simp [World.setCell];omega,fun k hk hn=>((Below.heap_setCell _ _ _ _ (by simp only;omega)).trans (Below.heap_setCell _ _ _ _ (by simp only;omega))).trans (hT.block k hk hn),hT.at'⟩
     go_region
     all_goals go_wp2_with fail
     all_goals (
      go_meet
      first
       | exact HF.out _ (Below.refl _ _)
       | exact HF.out _ ((Below.refl _ _).drew))
    case rest=>
     obtain ⟨hRc,hMc,hCc,hTc⟩:=hcut;obtain ⟨wk,hwk⟩:∃ z,z=wc:=⟨_,rfl⟩;rw [<-hwk] at hRc hMc hCc hTc;subst hwk;have HRk:Hid (Blk wk W.heap.size _ 43):=hRc;have HMk:Hid (Blk wk w.heap.size _ 43):=hMc;have HCk:Hid _:=hCc;have HTk:Hid _:=hTc;have v8:∀ u:BW wk,u.w.cell? ⟨b,8,none⟩=some (.int .i64 r.n.cm):=fun u=>by first | exact (HCk.out.below u.h).blk.cell 8 | (rw [<-HRc.out];exact (HCk.out.below u.h).blk.cell 8)
     have v6:∀ u:BW wk,u.w.cell? ⟨w.heap.size,6,none⟩=some (.int .i64 m.cm):=fun u=>(HMk.out.below u.h HMk.out.lt).cell 6
     have v4:∀ u:BW wk,u.w.cell? ⟨W.heap.size,4,none⟩=some (.int .i64 (m.li+(EN:Int))):=fun u=>(HRk.out.below u.h HRk.out.lt).cell 4
     have NEk:Nonempty (BW wk):=⟨⟨wk,Below.refl _ _⟩⟩;have hmn:(if m.li+(EN:Int)<m.cm then m.li+(EN:Int) else m.cm)=min m.cm (m.li+(EN:Int)):=by split <;> omega
     obtain ⟨MN,hMN⟩:∃ MN,MN=min m.cm (m.li+(EN:Int)):=⟨_,rfl⟩;obtain ⟨CX,hCX⟩:∃ CX,CX=max r.n.cm MN:=⟨_,rfl⟩;have hmx:(if r.n.cm<MN then MN else r.n.cm)=CX:=by rw [hCX];split <;> omega
     have hmx2:(if MN<r.n.cm then r.n.cm else MN)=CX:=by rw [hCX];split <;> omega
     rw [<-hMN] at hmn;have HRP2:Hid (RP=Rn.send { r with n:={ r.n with cm:=CX } } ⟨6,0,m.fr,r.n.tm,m.li+EN,0,0,1,0,[]⟩):=by unfold Hid;rw [hCX,hMN];exact HRP.out
     have HSt:Hid (∀ z,Below wk.heap.size wk z->z.cell? ⟨b,8,none⟩=some (.int .i64 r.n.cm)/\z.frozen? ⟨b,8,none⟩=false/\Z0 (z.setCell ⟨b,8,none⟩ (.int .i64 CX)) B b { r with n:={ r.n with cm:=CX } } x/\Tch b W x (z.setCell ⟨b,8,none⟩ (.int .i64 CX)) x/\Blk (z.setCell ⟨b,8,none⟩ (.int .i64 CX)) W.heap.size #[.int .i64 6,.int .i64 0,.int .i64 0,.int .i64 r.n.tm,.int .i64 (m.li+(EN:Int)),.int .i64 0,.int .i64 0,.int .i64 1,.int .i64 0,.slice none 0 0] 43/\Blk (z.setCell ⟨b,8,none⟩ (.int .i64 CX)) w.heap.size #[.int .i64 m.ki,.int .i64 m.fr,.int .i64 m.td,.int .i64 m.tm,.int .i64 m.li,.int .i64 m.lt,.int .i64 m.cm,.int .i64 m.ok,.int .i64 m.hi,.slice ea EN ec] 43):=fun z hz=>
      ⟨v8 ⟨z,hz⟩,(HCk.out.below hz).blk.free 8,(HCk.out.below hz).set 8 _ rfl rfl rfl rfl rfl rfl rfl rfl rfl rfl Iff.rfl,(HTk.out.tail hz).trans (Tch.set _ _ _ _ _),(HRk.out.below hz HRk.out.lt).set_other _ (by simp only;omega),(HMk.out.below hz HMk.out.lt).set_other _ (by simp only;omega)⟩
     clear hRc hMc hCc hTc z4 z9 y7 y4 yf7 yf4 hMN hCX HRP
     go_upto_region 13 with fail
     go_cut [] (fun z=>Z0 z B b { r with n:={ r.n with cm:=CX } } x/\Tch b W x z x/\Blk z W.heap.size #[.int .i64 6,.int .i64 0,.int .i64 0,.int .i64 r.n.tm,.int .i64 (m.li+(EN:Int)),.int .i64 0,.int .i64 0,.int .i64 1,.int .i64 0,.slice none 0 0] 43/\Blk z w.heap.size #[.int .i64 m.ki,.int .i64 m.fr,.int .i64 m.td,.int .i64 m.tm,.int .i64 m.li,.int .i64 m.lt,.int .i64 m.cm,.int .i64 m.ok,.int .i64 m.hi,.slice ea EN ec] 43)
     case first=>
      refine Zn (C:=fun w'=>∃ u:BW wk,w'=u.w) _ (by kernel_rfl) rfl (by kernel_rfl) ⟨⟨_,(Below.refl _ _).drew⟩,rfl⟩ ?_;simp only [List.dropLast_cons_cons,List.dropLast_singleton]
      repeat (first | go_big_quiet_step ((fail)))
      refine wpQuiet_nil ?_;intro wl hwwl;have hb_wl:Below wk.heap.size wk wl:=(by obtain ⟨u,rfl⟩:=hwwl;exact u.h);clear hwwl;obtain ⟨e1,e2,e3,e4,e5,e6⟩:=HSt.out wl hb_wl;refine Xm (.tmp 103) (.tmp 100) rfl rfl rfl e1 e2 rfl ?_;have HF:Hid _:=And.intro e3 (And.intro e4 (And.intro e5 e6));clear e1 e2 e3 e4 e5 e6
      go_wp2_with fail
      go_meet;exact HF.out
     case rest=>
      obtain ⟨hCc,hTc,hRc,hMc⟩:=hcut;obtain ⟨wn,hwn⟩:∃ z,z=wc:=⟨_,rfl⟩;rw [<-hwn] at hRc hMc hCc hTc;subst hwn;have HRn:Hid (Blk wn W.heap.size _ 43):=hRc;have HCn:Hid _:=hCc;have HTn:Hid _:=hTc;have s1:wn.cell? ⟨w.heap.size,1,none⟩=some (.int .i64 m.fr):=hMc.cell 1;clear hRc hMc hCc hTc v8 v6 v4 NEk
      go_wp2_with (first
       |(have hBA:=G1;refine Z7 43 (.tmp 5) rfl ?_;clear hBA;refine Z3 rfl 43 (.tmp 5) rfl W.heap.size rfl HRn.out Tryz.underlying43 rfl Zy rfl ?_;clear G1)
       |(go_at_call 165;refine Calls.mono (HSe.out _ _ _ _ _ _ HCn.out HXz.out) ?_;rintro e wz ⟨rfl,vz,yz,hz,tz⟩;have HZ:Hid (Z0 wz B b RP (x.sent vz yz)):=(by unfold Hid;rw [HRP2.out];exact hz);have TZ:Hid (Tch b w x wz (x.sent vz yz)):=Tch.head HBW.out (HTn.out.trans tz);clear hz tz))
      go_ret;exact ⟨by rw [HRP2.out];exact congrArg (fun c=>Ending.returned (.int .i64 c)) HKc.out.symm,_,HZ.out,TZ.out⟩
end Go.Proofs.YtmmpoppgabadmaaGreat
