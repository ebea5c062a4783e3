import Derived.Test.YtmmpoppgabadmaaGreatG13
set_option linter.unusedVariables false
set_option linter.unusedSimpArgs false
set_option maxRecDepth 100000
set_option maxHeartbeats 16000000
open Go.Value renaming slice → I,int → Aa,pointer → Ae
open Go.IntKind renaming i64 → O,wrap_i64 → Bl
open _root_.Option renaming none → Ab,some → Ac
open Go.Proofs.Tryz renaming prog → Ad
open Go renaming Value → Af,World → Ag,TypeId → Ax,wp_seq_k → A0,Act → Bn,wp_skip → Bz,wp_cond → B7,Exit → Ca,wp_block → Cd
open Go.RowKit renaming Below → Ai,intOf → B0
open Go.RowKit.Below renaming heap_setCell → Ak
open _root_.Nat renaming le_refl → Ao,le_trans → Ap,zero_le → Bb,lt_or_ge → B1
open Go.World.ownsRow renaming lt → Aq
open _root_.List renaming getElem?_eq_getElem → As,length_append → Bc,map_toArray → Bm,map_cons → Bq,not_mem_nil → Br,map_nil → Bu,mem_cons → B3
open Go.Act renaming eval → Bi
namespace Go.Proofs.YtmmpoppgabadmaaGreat
open Go.Proofs.Tryz
open Go.RowKit
section
variable {w0 w w2 w3:Ag} {g:Nat} {v:Af} {l:List Int} {k b4 b5 b9:Nat} {S:Array Af} {n:Nd} {x:RV} {u:Af} {q:List Int}
theorem NS.grNew (h:NS w0 w g v l k b4 b5 b9 S n x)(o:Ai w.heap.size w w2)(ho:Zc inC 1 3 w3 w0.heap.size u q)(j:Ye w2 x.vg w3 u) :
  Blk w3 b9 (ndC n x) 36/\NS w0 (w3.setCell ⟨b9,13,Ab⟩ u) g v l k b4 b5 b9 S { n with gr:=q } { x with vg:=u }:=by
 have aa:=o.size;have i:∀ p,x.vg.ownBlock=Ac p->w0.heap.size<=p/\p<w.heap.size/\p≠b9:=λp e=>⟨(h.gr.lts p e).1,(h.gr.lts p e).2,Zm h.gr h.nodeB (by decide) p e⟩
 have z:∀ p,p<w.heap.size->x.vg.ownBlock≠Ac p->w3.heap[p]? = w.heap[p]?:=λp hp hne=>(j.g.block p (by omega) (λe=>hne e.symm)).trans (o.block p hp)
 have f:∀ p,p≠b9->(w3.setCell ⟨b9,13,Ab⟩ u).heap[p]? = w3.heap[p]?:=λp hp=>Ak _ _ _ _ hp
 have b:∀ {α:Type} {cs:α->List Af} {m':Nat} {T:Ax} {y:Af} {q:List α},T≠36->Zc cs m' T w w0.heap.size y q->Yd x.vg y->Zc cs m' T (w3.setCell ⟨b9,13,Ab⟩ u) w0.heap.size y q:=λh1 ho' ha=>ho'.block λp e=>(f p (Zm ho' h.nodeB h1 p e)).trans (z p (ho'.lts p e).2 λe'=>ha p e' e)
 have s:∀ p,u.ownBlock=Ac p->p≠b9:=λp e=>by
  rcases j.at' with e' | ⟨r,e',hp⟩
  ·rw [e] at e';exact (i p e'.symm).2.2
  ·rw [e] at e';cases e';have:=h.nodeB.lt;omega
 have m:∀ {y:Af} {q':List Int},Zc inC 1 3 w w0.heap.size y q'->Yd x.vg y->Yd u y:=λhu ha p e1 e2=>by
  rcases j.at' with e' | ⟨r,e',hp⟩
  ·rw [e1] at e';exact ha p e'.symm e2
  ·rw [e1] at e';cases e';have:=(hu.lts _ e2).2;omega
 have hD:=(h.dr.below o).grew j (λp e=>(i p e).1) λy hy e=>by
  simp only [B3,Br,or_false] at hy;rcases hy with rfl | rfl | rfl
  ·exact Zm h.gr h.resB (by decide) _ e rfl
  ·exact Zm h.gr h.stB5 (by decide) _ e rfl
  ·exact (i _ e).2.2 rfl
 have t:isU8 u=false:=by obtain ⟨a,c,rfl⟩:=ho.shape;rfl
 refine ⟨hD.blk 2 rfl,hD.set 2 rfl 13 (by show 13<18;omega) u t,Zc.e (b (by decide) h.log.g (Yq h.gr h.log.g)) h.log.1,ho.block λp e=>f p (s p e),b (by decide) h.nx (Z5 h.ap 0 1),b (by decide) h.mt (Z5 h.ap 0 2),b (by decide) h.se (Z5 h.ap 0 3),b (by decide) h.st (Z5 h.ap 0 4),pw5 ((m h.nx (Z5 h.ap 0 1))) ((m h.mt (Z5 h.ap 0 2))) ((m h.se (Z5 h.ap 0 3))) ((m h.st (Z5 h.ap 0 4))) ((Z5 h.ap 1 2)) ((Z5 h.ap 1 3)) ((Z5 h.ap 1 4)) ((Z5 h.ap 2 3)) ((Z5 h.ap 2 4)) ((Z5 h.ap 3 4))⟩
theorem NS.nxNew (h:NS w0 w g v l k b4 b5 b9 S n x)(o:Ai w.heap.size w w2)(ho:Zc inC 1 3 w3 w0.heap.size u q)(j:Ye w2 x.vn w3 u) :
  Blk w3 b9 (ndC n x) 36/\NS w0 (w3.setCell ⟨b9,14,Ab⟩ u) g v l k b4 b5 b9 S { n with nx:=q } { x with vn:=u }:=by
 have aa:=o.size;have i:∀ p,x.vn.ownBlock=Ac p->w0.heap.size<=p/\p<w.heap.size/\p≠b9:=λp e=>⟨(h.nx.lts p e).1,(h.nx.lts p e).2,Zm h.nx h.nodeB (by decide) p e⟩
 have z:∀ p,p<w.heap.size->x.vn.ownBlock≠Ac p->w3.heap[p]? = w.heap[p]?:=λp hp hne=>(j.g.block p (by omega) (λe=>hne e.symm)).trans (o.block p hp)
 have f:∀ p,p≠b9->(w3.setCell ⟨b9,14,Ab⟩ u).heap[p]? = w3.heap[p]?:=λp hp=>Ak _ _ _ _ hp
 have b:∀ {α:Type} {cs:α->List Af} {m':Nat} {T:Ax} {y:Af} {q:List α},T≠36->Zc cs m' T w w0.heap.size y q->Yd x.vn y->Zc cs m' T (w3.setCell ⟨b9,14,Ab⟩ u) w0.heap.size y q:=λh1 ho' ha=>ho'.block λp e=>(f p (Zm ho' h.nodeB h1 p e)).trans (z p (ho'.lts p e).2 λe'=>ha p e' e)
 have s:∀ p,u.ownBlock=Ac p->p≠b9:=λp e=>by
  rcases j.at' with e' | ⟨r,e',hp⟩
  ·rw [e] at e';exact (i p e'.symm).2.2
  ·rw [e] at e';cases e';have:=h.nodeB.lt;omega
 have m:∀ {y:Af} {q':List Int},Zc inC 1 3 w w0.heap.size y q'->Yd x.vn y->Yd u y:=λhu ha p e1 e2=>by
  rcases j.at' with e' | ⟨r,e',hp⟩
  ·rw [e1] at e';exact ha p e'.symm e2
  ·rw [e1] at e';cases e';have:=(hu.lts _ e2).2;omega
 have hD:=(h.dr.below o).grew j (λp e=>(i p e).1) λy hy e=>by
  simp only [B3,Br,or_false] at hy;rcases hy with rfl | rfl | rfl
  ·exact Zm h.nx h.resB (by decide) _ e rfl
  ·exact Zm h.nx h.stB5 (by decide) _ e rfl
  ·exact (i _ e).2.2 rfl
 have t:isU8 u=false:=by obtain ⟨a,c,rfl⟩:=ho.shape;rfl
 refine ⟨hD.blk 2 rfl,hD.set 2 rfl 14 (by show 14<18;omega) u t,Zc.e (b (by decide) h.log.g (Yq h.nx h.log.g)) h.log.1,b (by decide) h.gr (Z5 h.ap 0 1).symm,ho.block λp e=>f p (s p e),b (by decide) h.mt (Z5 h.ap 1 2),b (by decide) h.se (Z5 h.ap 1 3),b (by decide) h.st (Z5 h.ap 1 4),pw5 ((m h.gr (Z5 h.ap 0 1).symm).symm) ((Z5 h.ap 0 2)) ((Z5 h.ap 0 3)) ((Z5 h.ap 0 4)) ((m h.mt (Z5 h.ap 1 2))) ((m h.se (Z5 h.ap 1 3))) ((m h.st (Z5 h.ap 1 4))) ((Z5 h.ap 2 3)) ((Z5 h.ap 2 4)) ((Z5 h.ap 3 4))⟩
theorem NS.mtNew (h:NS w0 w g v l k b4 b5 b9 S n x)(o:Ai w.heap.size w w2)(ho:Zc inC 1 3 w3 w0.heap.size u q)(j:Ye w2 x.vm w3 u) :
  Blk w3 b9 (ndC n x) 36/\NS w0 (w3.setCell ⟨b9,15,Ab⟩ u) g v l k b4 b5 b9 S { n with mt:=q } { x with vm:=u }:=by
 have aa:=o.size;have i:∀ p,x.vm.ownBlock=Ac p->w0.heap.size<=p/\p<w.heap.size/\p≠b9:=λp e=>⟨(h.mt.lts p e).1,(h.mt.lts p e).2,Zm h.mt h.nodeB (by decide) p e⟩
 have z:∀ p,p<w.heap.size->x.vm.ownBlock≠Ac p->w3.heap[p]? = w.heap[p]?:=λp hp hne=>(j.g.block p (by omega) (λe=>hne e.symm)).trans (o.block p hp)
 have f:∀ p,p≠b9->(w3.setCell ⟨b9,15,Ab⟩ u).heap[p]? = w3.heap[p]?:=λp hp=>Ak _ _ _ _ hp
 have b:∀ {α:Type} {cs:α->List Af} {m':Nat} {T:Ax} {y:Af} {q:List α},T≠36->Zc cs m' T w w0.heap.size y q->Yd x.vm y->Zc cs m' T (w3.setCell ⟨b9,15,Ab⟩ u) w0.heap.size y q:=λh1 ho' ha=>ho'.block λp e=>(f p (Zm ho' h.nodeB h1 p e)).trans (z p (ho'.lts p e).2 λe'=>ha p e' e)
 have s:∀ p,u.ownBlock=Ac p->p≠b9:=λp e=>by
  rcases j.at' with e' | ⟨r,e',hp⟩
  ·rw [e] at e';exact (i p e'.symm).2.2
  ·rw [e] at e';cases e';have:=h.nodeB.lt;omega
 have m:∀ {y:Af} {q':List Int},Zc inC 1 3 w w0.heap.size y q'->Yd x.vm y->Yd u y:=λhu ha p e1 e2=>by
  rcases j.at' with e' | ⟨r,e',hp⟩
  ·rw [e1] at e';exact ha p e'.symm e2
  ·rw [e1] at e';cases e';have:=(hu.lts _ e2).2;omega
 have hD:=(h.dr.below o).grew j (λp e=>(i p e).1) λy hy e=>by
  simp only [B3,Br,or_false] at hy;rcases hy with rfl | rfl | rfl
  ·exact Zm h.mt h.resB (by decide) _ e rfl
  ·exact Zm h.mt h.stB5 (by decide) _ e rfl
  ·exact (i _ e).2.2 rfl
 have t:isU8 u=false:=by obtain ⟨a,c,rfl⟩:=ho.shape;rfl
 refine ⟨hD.blk 2 rfl,hD.set 2 rfl 15 (by show 15<18;omega) u t,Zc.e (b (by decide) h.log.g (Yq h.mt h.log.g)) h.log.1,b (by decide) h.gr (Z5 h.ap 0 2).symm,b (by decide) h.nx (Z5 h.ap 1 2).symm,ho.block λp e=>f p (s p e),b (by decide) h.se (Z5 h.ap 2 3),b (by decide) h.st (Z5 h.ap 2 4),pw5 ((Z5 h.ap 0 1)) ((m h.gr (Z5 h.ap 0 2).symm).symm) ((Z5 h.ap 0 3)) ((Z5 h.ap 0 4)) ((m h.nx (Z5 h.ap 1 2).symm).symm) ((Z5 h.ap 1 3)) ((Z5 h.ap 1 4)) ((m h.se (Z5 h.ap 2 3))) ((m h.st (Z5 h.ap 2 4))) ((Z5 h.ap 3 4))⟩
theorem NS.seNew (h:NS w0 w g v l k b4 b5 b9 S n x)(o:Ai w.heap.size w w2)(ho:Zc inC 1 3 w3 w0.heap.size u q)(j:Ye w2 x.vs w3 u) :
  Blk w3 b9 (ndC n x) 36/\NS w0 (w3.setCell ⟨b9,16,Ab⟩ u) g v l k b4 b5 b9 S { n with se:=q } { x with vs:=u }:=by
 have aa:=o.size;have i:∀ p,x.vs.ownBlock=Ac p->w0.heap.size<=p/\p<w.heap.size/\p≠b9:=λp e=>⟨(h.se.lts p e).1,(h.se.lts p e).2,Zm h.se h.nodeB (by decide) p e⟩
 have z:∀ p,p<w.heap.size->x.vs.ownBlock≠Ac p->w3.heap[p]? = w.heap[p]?:=λp hp hne=>(j.g.block p (by omega) (λe=>hne e.symm)).trans (o.block p hp)
 have f:∀ p,p≠b9->(w3.setCell ⟨b9,16,Ab⟩ u).heap[p]? = w3.heap[p]?:=λp hp=>Ak _ _ _ _ hp
 have b:∀ {α:Type} {cs:α->List Af} {m':Nat} {T:Ax} {y:Af} {q:List α},T≠36->Zc cs m' T w w0.heap.size y q->Yd x.vs y->Zc cs m' T (w3.setCell ⟨b9,16,Ab⟩ u) w0.heap.size y q:=λh1 ho' ha=>ho'.block λp e=>(f p (Zm ho' h.nodeB h1 p e)).trans (z p (ho'.lts p e).2 λe'=>ha p e' e)
 have s:∀ p,u.ownBlock=Ac p->p≠b9:=λp e=>by
  rcases j.at' with e' | ⟨r,e',hp⟩
  ·rw [e] at e';exact (i p e'.symm).2.2
  ·rw [e] at e';cases e';have:=h.nodeB.lt;omega
 have m:∀ {y:Af} {q':List Int},Zc inC 1 3 w w0.heap.size y q'->Yd x.vs y->Yd u y:=λhu ha p e1 e2=>by
  rcases j.at' with e' | ⟨r,e',hp⟩
  ·rw [e1] at e';exact ha p e'.symm e2
  ·rw [e1] at e';cases e';have:=(hu.lts _ e2).2;omega
 have hD:=(h.dr.below o).grew j (λp e=>(i p e).1) λy hy e=>by
  simp only [B3,Br,or_false] at hy;rcases hy with rfl | rfl | rfl
  ·exact Zm h.se h.resB (by decide) _ e rfl
  ·exact Zm h.se h.stB5 (by decide) _ e rfl
  ·exact (i _ e).2.2 rfl
 have t:isU8 u=false:=by obtain ⟨a,c,rfl⟩:=ho.shape;rfl
 refine ⟨hD.blk 2 rfl,hD.set 2 rfl 16 (by show 16<18;omega) u t,Zc.e (b (by decide) h.log.g (Yq h.se h.log.g)) h.log.1,b (by decide) h.gr (Z5 h.ap 0 3).symm,b (by decide) h.nx (Z5 h.ap 1 3).symm,b (by decide) h.mt (Z5 h.ap 2 3).symm,ho.block λp e=>f p (s p e),b (by decide) h.st (Z5 h.ap 3 4),pw5 ((Z5 h.ap 0 1)) ((Z5 h.ap 0 2)) ((m h.gr (Z5 h.ap 0 3).symm).symm) ((Z5 h.ap 0 4)) ((Z5 h.ap 1 2)) ((m h.nx (Z5 h.ap 1 3).symm).symm) ((Z5 h.ap 1 4)) ((m h.mt (Z5 h.ap 2 3).symm).symm) ((Z5 h.ap 2 4)) ((m h.st (Z5 h.ap 3 4)))⟩
theorem NS.stNew (h:NS w0 w g v l k b4 b5 b9 S n x)(o:Ai w.heap.size w w2)(ho:Zc inC 1 3 w3 w0.heap.size u q)(j:Ye w2 x.vt w3 u) :
  Blk w3 b9 (ndC n x) 36/\NS w0 (w3.setCell ⟨b9,17,Ab⟩ u) g v l k b4 b5 b9 S { n with st:=q } { x with vt:=u }:=by
 have aa:=o.size;have i:∀ p,x.vt.ownBlock=Ac p->w0.heap.size<=p/\p<w.heap.size/\p≠b9:=λp e=>⟨(h.st.lts p e).1,(h.st.lts p e).2,Zm h.st h.nodeB (by decide) p e⟩
 have z:∀ p,p<w.heap.size->x.vt.ownBlock≠Ac p->w3.heap[p]? = w.heap[p]?:=λp hp hne=>(j.g.block p (by omega) (λe=>hne e.symm)).trans (o.block p hp)
 have f:∀ p,p≠b9->(w3.setCell ⟨b9,17,Ab⟩ u).heap[p]? = w3.heap[p]?:=λp hp=>Ak _ _ _ _ hp
 have b:∀ {α:Type} {cs:α->List Af} {m':Nat} {T:Ax} {y:Af} {q:List α},T≠36->Zc cs m' T w w0.heap.size y q->Yd x.vt y->Zc cs m' T (w3.setCell ⟨b9,17,Ab⟩ u) w0.heap.size y q:=λh1 ho' ha=>ho'.block λp e=>(f p (Zm ho' h.nodeB h1 p e)).trans (z p (ho'.lts p e).2 λe'=>ha p e' e)
 have s:∀ p,u.ownBlock=Ac p->p≠b9:=λp e=>by
  rcases j.at' with e' | ⟨r,e',hp⟩
  ·rw [e] at e';exact (i p e'.symm).2.2
  ·rw [e] at e';cases e';have:=h.nodeB.lt;omega
 have m:∀ {y:Af} {q':List Int},Zc inC 1 3 w w0.heap.size y q'->Yd x.vt y->Yd u y:=λhu ha p e1 e2=>by
  rcases j.at' with e' | ⟨r,e',hp⟩
  ·rw [e1] at e';exact ha p e'.symm e2
  ·rw [e1] at e';cases e';have:=(hu.lts _ e2).2;omega
 have hD:=(h.dr.below o).grew j (λp e=>(i p e).1) λy hy e=>by
  simp only [B3,Br,or_false] at hy;rcases hy with rfl | rfl | rfl
  ·exact Zm h.st h.resB (by decide) _ e rfl
  ·exact Zm h.st h.stB5 (by decide) _ e rfl
  ·exact (i _ e).2.2 rfl
 have t:isU8 u=false:=by obtain ⟨a,c,rfl⟩:=ho.shape;rfl
 refine ⟨hD.blk 2 rfl,hD.set 2 rfl 17 (by show 17<18;omega) u t,Zc.e (b (by decide) h.log.g (Yq h.st h.log.g)) h.log.1,b (by decide) h.gr (Z5 h.ap 0 4).symm,b (by decide) h.nx (Z5 h.ap 1 4).symm,b (by decide) h.mt (Z5 h.ap 2 4).symm,b (by decide) h.se (Z5 h.ap 3 4).symm,ho.block λp e=>f p (s p e),pw5 ((Z5 h.ap 0 1)) ((Z5 h.ap 0 2)) ((Z5 h.ap 0 3)) ((m h.gr (Z5 h.ap 0 4).symm).symm) ((Z5 h.ap 1 2)) ((Z5 h.ap 1 3)) ((m h.nx (Z5 h.ap 1 4).symm).symm) ((Z5 h.ap 2 3)) ((m h.mt (Z5 h.ap 2 4).symm).symm) ((m h.se (Z5 h.ap 3 4).symm).symm)⟩
theorem NS.logT (h:NS w0 w g v l k b4 b5 b9 S n x){p m:Nat}(o:x.vl=I (Ac ⟨p,0,Ab⟩) n.log.length m)(i:Nat)(hi:i<n.log.length)(T:Int):NS w0 (w.setCell ⟨p,i*7,Ab⟩ (Aa O T)) g v l k b4 b5 b9 S { n with log:=n.log.set i (J4 T n.log[i]) } x:=by
 have a:=h.log;rw [o] at a;have r:x.vl.ownBlock=Ac p:=by rw [o];rfl
 have j:=(a.2.stored (i*7) (Aa O T)).2;have f:∀ q,q≠p->(w.setCell ⟨p,i*7,Ab⟩ (Aa O T)).heap[q]? = w.heap[q]?:=λq hq=>Ak _ _ _ _ hq
 have s:=h.dr.grew (u:=I (Ac ⟨p,0,Ab⟩) n.log.length m) (u':=I (Ac ⟨p,0,Ab⟩) n.log.length m) ⟨j,.inl rfl⟩ (λq' hq'=>(a.2.lt q' hq').1) (λy hy=>by
  simp only [B3,Br,or_false] at hy;rcases hy with rfl | rfl | rfl
  ·exact λe=>Y5 a h.resB (by decide) _ e rfl
  ·exact λe=>Y5 a h.stB5 (by decide) _ e rfl
  ·exact λe=>Y5 a h.nodeB (by decide) _ e rfl)
 have b:∀ {y:Af} {q:List Int},Zc inC 1 3 w w0.heap.size y q->Zc inC 1 3 (w.setCell ⟨p,i*7,Ab⟩ (Aa O T)) w0.heap.size y q:=λho=>ho.block λq e=>f q λe'=>Yq ho h.log.g (by decide) q e (by rw [r,e'])
 refine ⟨s,?_,b h.gr,b h.nx,b h.mt,b h.se,b h.st,h.ap⟩;show Zh _ _ x.vl _;rw [o];exact a.setT rfl i hi T
end
section
variable {c:DC} {w w2 w3:Ag} {d:DnS} {x:RV} {u:Af} {q:List Int}
theorem DC.N.grNew (h:c.N w d x)(e:Ai w.heap.size w w2)(b:Zc inC 1 3 w3 c.w0.heap.size u q)(a:Ye w2 x.vg w3 u):c.N (w3.setCell ⟨c.b9,13,Ab⟩ u) ⟨{ d.n with gr:=q },d.k⟩ { x with vg:=u }:=(NS.grNew h e b a).2
theorem DC.N.grBlk (h:c.N w d x)(e:Ai w.heap.size w w2)(b:Zc inC 1 3 w3 c.w0.heap.size u q)(a:Ye w2 x.vg w3 u):Blk w3 c.b9 (ndC d.n x) 36:=(NS.grNew h e b a).1
theorem DC.N.grOwn (h:c.N w d x):Zc inC 1 3 w c.w0.heap.size x.vg d.n.gr:=NS.gr h
theorem DC.N.nxNew (h:c.N w d x)(e:Ai w.heap.size w w2)(b:Zc inC 1 3 w3 c.w0.heap.size u q)(a:Ye w2 x.vn w3 u):c.N (w3.setCell ⟨c.b9,14,Ab⟩ u) ⟨{ d.n with nx:=q },d.k⟩ { x with vn:=u }:=(NS.nxNew h e b a).2
theorem DC.N.nxBlk (h:c.N w d x)(e:Ai w.heap.size w w2)(b:Zc inC 1 3 w3 c.w0.heap.size u q)(a:Ye w2 x.vn w3 u):Blk w3 c.b9 (ndC d.n x) 36:=(NS.nxNew h e b a).1
theorem DC.N.nxOwn (h:c.N w d x):Zc inC 1 3 w c.w0.heap.size x.vn d.n.nx:=NS.nx h
theorem DC.N.mtNew (h:c.N w d x)(e:Ai w.heap.size w w2)(b:Zc inC 1 3 w3 c.w0.heap.size u q)(a:Ye w2 x.vm w3 u):c.N (w3.setCell ⟨c.b9,15,Ab⟩ u) ⟨{ d.n with mt:=q },d.k⟩ { x with vm:=u }:=(NS.mtNew h e b a).2
theorem DC.N.mtBlk (h:c.N w d x)(e:Ai w.heap.size w w2)(b:Zc inC 1 3 w3 c.w0.heap.size u q)(a:Ye w2 x.vm w3 u):Blk w3 c.b9 (ndC d.n x) 36:=(NS.mtNew h e b a).1
theorem DC.N.mtOwn (h:c.N w d x):Zc inC 1 3 w c.w0.heap.size x.vm d.n.mt:=NS.mt h
theorem DC.N.seNew (h:c.N w d x)(e:Ai w.heap.size w w2)(b:Zc inC 1 3 w3 c.w0.heap.size u q)(a:Ye w2 x.vs w3 u):c.N (w3.setCell ⟨c.b9,16,Ab⟩ u) ⟨{ d.n with se:=q },d.k⟩ { x with vs:=u }:=(NS.seNew h e b a).2
theorem DC.N.seBlk (h:c.N w d x)(e:Ai w.heap.size w w2)(b:Zc inC 1 3 w3 c.w0.heap.size u q)(a:Ye w2 x.vs w3 u):Blk w3 c.b9 (ndC d.n x) 36:=(NS.seNew h e b a).1
theorem DC.N.seOwn (h:c.N w d x):Zc inC 1 3 w c.w0.heap.size x.vs d.n.se:=NS.se h
theorem DC.N.stNew (h:c.N w d x)(e:Ai w.heap.size w w2)(b:Zc inC 1 3 w3 c.w0.heap.size u q)(a:Ye w2 x.vt w3 u):c.N (w3.setCell ⟨c.b9,17,Ab⟩ u) ⟨{ d.n with st:=q },d.k⟩ { x with vt:=u }:=(NS.stNew h e b a).2
theorem DC.N.stBlk (h:c.N w d x)(e:Ai w.heap.size w w2)(b:Zc inC 1 3 w3 c.w0.heap.size u q)(a:Ye w2 x.vt w3 u):Blk w3 c.b9 (ndC d.n x) 36:=(NS.stNew h e b a).1
theorem DC.N.stOwn (h:c.N w d x):Zc inC 1 3 w c.w0.heap.size x.vt d.n.st:=NS.st h
theorem DC.N.logT (h:c.N w d x){p a:Nat}(b:x.vl=I (Ac ⟨p,0,Ab⟩) d.n.log.length a)(i:Nat)(hi:i<d.n.log.length)(T:Int):c.N (w.setCell ⟨p,i*7,Ab⟩ (Aa O T)) ⟨{ d.n with log:=d.n.log.set i (J4 T d.n.log[i]) },d.k⟩ x:=NS.logT h b i hi T
theorem DC.N.logOwn (h:c.N w d x):Zh w c.w0.heap.size x.vl d.n.log:=NS.log h
theorem DC.N.wsize (h:c.N w d x):c.w0.heap.size<=w.heap.size:=(NS.dr h).size
end
section
variable {Q:Ca->Bn->Ag->Prop} {K:Bn->Ag->Prop} {c:DC} {d:DnS} {X:RV} {a:Bn} {w:Ag}
def dnGrS (l:List Int)(id:Nat)(r:DnG)(j:Nat):DnG:=
 if j+1=id then ⟨r.gr ++ [(j:Int)+1],r.ex,r.k⟩
 else if 0<r.ex then (if Z4 l r.k 2=0 then ⟨r.gr ++ [(j:Int)+1],r.ex-1,r.k+1⟩ else ⟨r.gr,r.ex,r.k+1⟩)
 else r
theorem dnGrK_succ (l:List Int)(id:Nat)(s:DnG)(j:Nat):Je l id s (j+1)=dnGrS l id (Je l id s j) j:=rfl
theorem dnGrK_le (l:List Int)(id:Nat)(s:DnG):∀ j,(Je l id s j).gr.length<=s.gr.length+j/\(Je l id s j).k<=s.k+j/\(Je l id s j).ex<=s.ex
 | 0=>⟨Ao _,Ao _,Ao _⟩
 | j+1=>by
  have b:=dnGrK_le l id s j;rw [dnGrK_succ];unfold dnGrS;split
  ·simp;omega
  ·split
   ·split
    ·simp;omega
    ·dsimp only;omega
   ·omega
variable {m:Nat}
theorem dnR33 (h:c.Ok)(p:m<=899000000)(f:DB d m)(l:c.Fr a)(o:c.N w d X)(e:∀ a' w',c.Fr a'->c.N w' d X/\Tv a' 156=.bool (decide (d.n.ro=1∨d.n.ro=2))->K a' w'):(Z2 0 (Z2 17 (Z3 f51))).wp Ad (Exit.then K Q) a w:=by
 obtain ⟨t,rfl⟩:=l.opened;clear l;have b:=Z0 o;clear o;obtain ⟨r,g⟩:=exq (d.n.ro);have z:w.cell? ⟨c.b9,6,Ab⟩=Ac (Aa O r):=g▸b.blk.cell 6
 rw [<-g] at e;clear g
 conv=>arg 2;whnf
 by_cases j:r=1
 ·go_wp2_with fail
  exact e _ _ {} ⟨b,by simp [Bi,j]⟩
 ·by_cases i:r=2
  ·go_wp2_with fail
   exact e _ _ {} ⟨b,by simp [Bi,i]⟩
  ·go_wp2_with fail
   exact e _ _ {} ⟨b,by simp [Bi,j,i]⟩
theorem dnR34 (e:c.Ok)(v:m<=899000000)(f:DB d m)(j:c.Fr a)(o:c.N w d X)(h:∀ a' w',c.Fr a'->c.N w' ⟨d.n,d.k+1⟩ X/\Tv a' 11=Aa O (Z4 c.l d.k (c.SZ / 2):Nat)->K a' w'):(Z2 0 (Za (Z1 1 (Z2 17 (Z3 f51))))).wp Ad (Exit.then K Q) a w:=by
 obtain ⟨t,rfl⟩:=j.opened;have ab:=e.sz;have z:=e.id;have x:=f.k;clear j;have q:=Z0 o;clear o;obtain ⟨p,b⟩:=exq (Z4 c.l d.k (c.SZ / 2));have i:=Z0 b;rw [<-b] at h;have s:p<(c.SZ / 2):=b▸Z6 _ _ _ (by omega)
 clear b;obtain ⟨M,u⟩:=exq (c.SZ / 2);rw [<-u] at i s
 conv=>arg 2;whnf
 go_wp2_with (go_at_call 53;rw [show ((c.SZ:Int) / 2)=(M:Int) by omega];go_loud (refine (q.pick1 e M).mono ?_;rw [<-i.out];rintro r w9 ⟨rfl,hd⟩;have g:=Z0 hd;clear hd))
 exact h _ _ {} ⟨g,rfl⟩
theorem dnR35 (b:c.Ok)(r:m<=899000000)(e:DB d m){e11:Af}(f:Tv a 11=e11)(h:c.Fr a)(g:c.N w d X)(o:∀ a' w',c.Fr a'->c.N w' d X/\Tv a' 11=e11/\Tv a' 12=Aa O 1->K a' w'):(Z2 1 (Za (Z1 1 (Z2 17 (Z3 f51))))).wp Ad (Exit.then K Q) a w:=by
 obtain ⟨t,rfl⟩:=h.opened;clear h;have n:=Z0 g;clear g;have u:t 11=e11:=f
 conv=>arg 2;whnf
 go_wp2_with fail
 exact o _ _ {} ⟨n,rfl,rfl⟩
theorem dnG1 {s:DnG}{j:Nat}(hc:c.Ok)(ao:m<=899000000)(hb:DB d m)(hj:j<c.SZ)(az:s.k<=899000000)(a3:s.gr.length<=1000)(au:s.ex<=1000)(hF:c.Fr a)(ai:Tv a 12=Aa O ((j:Int)+1))(ab:Tv a 11=Aa O (s.ex:Nat))(hS:c.N w ⟨{ d.n with gr:=s.gr },s.k⟩ X)(h:∀ a' w' x',c.Fr a'->Tv a' 12=Aa O ((j:Int)+1+1)->Tv a' 11=Aa O ((dnGrS c.l c.ID s j).ex:Nat)->c.N w' ⟨{ d.n with gr:=(dnGrS c.l c.ID s j).gr },(dnGrS c.l c.ID s j).k⟩ x'->K a' w'):(Zp (Zb (Z1 2 (Za (Z1 1 (Z2 17 (Z3 f51))))))).wp Ad (Exit.then K Q) a w:=by
 obtain ⟨t,rfl⟩:=hF.opened;have ay:=hc.sz;have aw:=hc.id;clear hF;have u:=Z0 hS;clear hS;have ht:t 12=Aa O ((j:Int)+1):=ai;have ad:t 11=Aa O (s.ex:Nat):=ab;rw [ht,ad];clear ht ad ab ai;obtain ⟨x,v,aj⟩:=u.grOwn.shape;have f:=Z0 aj;have c13:w.cell? ⟨c.b9,13,Ab⟩=Ac (I x s.gr.length v):=f.out▸u.blk.cell 13
 have HO:Hid (Zc inC 1 3 w c.w0.heap.size (I x s.gr.length v) s.gr):=f.out▸u.grOwn
 have aq:=u.wsize;clear aj;obtain ⟨p,hp⟩:=exq (Z4 c.l s.k 2);have Hp:=Z0 hp;have ac:dnGrS c.l c.ID s j=if j+1=c.ID then ⟨s.gr ++ [(j:Int)+1],s.ex,s.k⟩ else if 0<s.ex then (if p=0 then ⟨s.gr ++ [(j:Int)+1],s.ex-1,s.k+1⟩ else ⟨s.gr,s.ex,s.k+1⟩) else s:=by rw [hp];rfl
 rw [ac] at h;have bp:p<2:=hp▸Z6 _ _ _ (by omega)
 clear hp ac
 conv=>arg 2;whnf
 by_cases hi:j+1=c.ID
 ·rw [if_pos hi] at h
  go_wp2_with (at_builtin;refine Yl Z16 rfl _ _ rfl (((j:Int)+1)) (HO.below baq) rfl _ 1 (Blk.new _ _ _).range rfl (by omega) (by simp;omega) ?_;intro v2 w2 g i;obtain ⟨a2,n2,c2,z⟩:∃ a n c,v2=I a n c:=(by obtain ⟨a,c,e⟩:=g.shape;exact ⟨a,_,c,e⟩);subst z;have aa:=Z0 g;have o:Hid (Ye (w.alloc (.cells #[Aa O (((j:Int)+1))] 3)) X.vg w2 (I a2 n2 c2)):=(f.out▸i);have hB:=u.grBlk baq g o;have ak:w2.cell? ⟨c.b9,13,Ab⟩=Ac (I x s.gr.length v):=(f.out▸hB.cell 13);have am:=hB.free 13;clear g i hB)
  exact h _ _ _ {} rfl rfl (u.grNew baq aa o)
 ·rw [if_neg hi] at h
  by_cases hx:0<s.ex
  ·rw [if_pos hx] at h
   by_cases af:p=0
   ·rw [if_pos af] at h
    obtain ⟨a1,ae⟩:∃ q,s.ex=q+1:=⟨s.ex-1,by omega⟩;rw [ae] at h ⊢
    go_wp2_with (first
     |(go_at_call 53;go_loud (refine (u.pick1 hc 2 (by show s.k<=_;omega)).mono ?_;rw [<-Hp.out];rintro r y ⟨rfl,hd⟩;have b:=Z0 hd;have ah:y.cell? ⟨c.b9,13,Ab⟩=Ac (I x s.gr.length v):=(f.out▸b.blk.cell 13);have f139:=b.blk.free 13;have ag:Hid (Zc inC 1 3 y c.w0.heap.size (I x s.gr.length v) s.gr):=(f.out▸b.grOwn);have al:=b.wsize;clear hd))
     |(at_builtin;refine Yl Z16 rfl _ _ rfl (((j:Int)+1)) (ag.below baq) rfl _ 1 (Blk.new _ _ _).range rfl (by omega) (by simp;omega) ?_;intro v2 w2 g i;obtain ⟨a2,n2,c2,z⟩:∃ a n c,v2=I a n c:=(by obtain ⟨a,c,e⟩:=g.shape;exact ⟨a,_,c,e⟩);subst z;have aa:=Z0 g;have o:Hid (Ye (y.alloc (.cells #[Aa O (((j:Int)+1))] 3)) X.vg w2 (I a2 n2 c2)):=(f.out▸i);have hB:=b.grBlk baq g o;have ak:w2.cell? ⟨c.b9,13,Ab⟩=Ac (I x s.gr.length v):=(f.out▸hB.cell 13);have am:=hB.free 13;clear g i hB))
    exact h _ _ _ {} rfl (by simp [Bi]) (b.grNew baq aa o)
   ·rw [if_neg af] at h
    go_wp2_with (go_at_call 53;go_loud (refine (u.pick1 hc 2 (by show s.k<=_;omega)).mono ?_;rw [<-Hp.out];rintro r y ⟨rfl,hd⟩;have b:=Z0 hd;have ah:y.cell? ⟨c.b9,13,Ab⟩=Ac (I x s.gr.length v):=(f.out▸b.blk.cell 13);have f139:=b.blk.free 13;have ag:Hid (Zc inC 1 3 y c.w0.heap.size (I x s.gr.length v) s.gr):=(f.out▸b.grOwn);have al:=b.wsize;clear hd))
    exact h _ _ _ {} rfl rfl b
  ·rw [if_neg hx] at h
   go_wp2_with fail
   exact h _ _ _ {} rfl rfl u
theorem dnG2 {R:Ca->Bn->Ag->Prop}{e11:Af}(f:c.Ok)(l:m<=899000000)(e:DB d m)(h:c.Fr a)(b:Tv a 12=Aa O ((c.SZ:Int)+1))(j:c.N w d X)(i:∀ a',c.Fr a'->R (.exit 0) a' w):(Zp (Zb (Z1 2 (Za (Z1 1 (Z2 17 (Z3 f51))))))).wp Ad (Exit.then K R) a w:=by
 obtain ⟨t,rfl⟩:=h.opened;clear h;clear j;have g:t 12=Aa O ((c.SZ:Int)+1):=b;rw [g];clear g b;have s:=Z0 i;clear i
 conv=>arg 2;whnf
 go_wp2_with fail
 exact s _ {}
end
section
variable {Q:Ca->Bn->Ag->Prop} {K:Bn->Ag->Prop} {c:DC} {d:DnS} {X:RV} {a:Bn} {w:Ag}
theorem Z6f (T:Int)(L:List Ent)(o i:Nat):(X6 T L o)[i]? = if i<L.length-o then L[i]? else L[i]?.map (J4 T):=by
 unfold X6;have b:(L.take (L.length-o)).length=L.length-o:=by simp
 split
 ·rename_i h
  rw [List.getElem?_append_left (by rw [b];exact h),List.getElem?_take_of_lt h]
 ·rename_i h
  rw [List.getElem?_append_right (by rw [b];omega),b,List.getElem?_map,List.getElem?_drop];congr 2;omega
theorem Z1j (T:Int)(L:List Ent)(o:Nat):(X6 T L o).length=L.length:=by
 unfold X6;simp <;> omega
theorem dnOwn_zero (T:Int)(L:List Ent):X6 T L 0=L:=by unfold X6;simp
theorem dnOwn_most (T:Int)(L:List Ent)(o:Nat)(h:L.length<=o):X6 T L o=X6 T L L.length:=by
 unfold X6;rw [show L.length-o=0 by omega,show L.length-L.length=0 by omega]
theorem dnOwn_succ (T:Int)(L:List Ent)(q i:Nat)(hi:i+1+q=L.length):X6 T L (q+1)=(X6 T L q).set i (J4 T ((X6 T L q)[i]'(by rw [Z1j];omega))):=by
 have b:i<L.length:=by omega
 have h:(X6 T L q)[i]'(by rw [Z1j];omega)=L[i]:=by
  have e:=Z6f T L q i;rw [if_pos (by omega),As b,As (by rw [Z1j];omega)] at e;injection e
 rw [h];refine List.ext_getElem? λj=>?_
 rw [Z6f,List.getElem?_set,Z1j,Z6f];by_cases e:i=j
 ·subst e
  rw [ifo,if_pos rfl,if_pos b,As b];rfl
 ·rw [if_neg e]
  by_cases f:j<L.length-(q+1)
  ·rw [if_pos f,if_pos (by omega)]
  ·rw [if_neg f]
   by_cases g:j<L.length-q
   ·omega
   ·rw [if_neg g]
variable {m:Nat}
theorem dnR43 (b:c.Ok)(v:m<=899000000)(f:DB d m)(j:c.Fr a)(i:c.N w d X)(g:∀ a' w',c.Fr a'->c.N w' d X/\Tv a' 192=.bool (decide (d.n.ro=3))->K a' w'):(Z2 0 (Z2 18 (Z3 f51))).wp Ad (Exit.then K Q) a w:=by
 obtain ⟨t,rfl⟩:=j.opened;clear j;have h:=Z0 i;clear i;obtain ⟨r,e⟩:=exq (d.n.ro);have y:w.cell? ⟨c.b9,6,Ab⟩=Ac (Aa O r):=e▸h.blk.cell 6
 rw [<-e] at g;clear e
 conv=>arg 2;whnf
 go_wp2_with fail
 exact g _ _ {} ⟨h,by simp [Bi];rfl⟩
theorem dnR44 (e:c.Ok)(s:m<=899000000)(f:DB d m)(i:c.Fr a)(j:c.N w d X)(h:∀ a' w',c.Fr a'->c.N w' ⟨d.n,d.k+1⟩ X/\Tv a' 13=Aa O (Z4 c.l d.k 4:Nat)->K a' w'):(Z2 0 (Za (Z1 1 (Z2 18 (Z3 f51))))).wp Ad (Exit.then K Q) a w:=by
 obtain ⟨t,rfl⟩:=i.opened;have u:=f.k;clear i;have q:=Z0 j;clear j;obtain ⟨p,b⟩:=exq (Z4 c.l d.k 4);have Hp:=Z0 b;rw [<-b] at h
 clear b
 conv=>arg 2;whnf
 go_wp2_with (go_at_call 53;go_loud (refine (q.pick1 e 4).mono ?_;rw [<-Hp.out];rintro r w9 ⟨rfl,hd⟩;have g:=Z0 hd;clear hd))
 exact h _ _ {} ⟨g,rfl⟩
theorem dnR45 (i:c.Ok)(v:m<=899000000)(g:DB d m){e13:Af}(f:Tv a 13=e13)(l:c.Fr a)(j:c.N w d X)(hK:∀ a' w',c.Fr a'->c.N w' d X/\Tv a' 13=e13/\Tv a' 14=Aa O ((d.n.log.length:Int)-1)->K a' w'):(Z2 0 (Z2 1 (Za (Z1 1 (Z2 18 (Z3 f51)))))).wp Ad (Exit.then K Q) a w:=by
 obtain ⟨t,rfl⟩:=l.opened;have q:=g.lg;clear l;have e:=Z0 j;clear j;have p:=f;obtain ⟨s,rc,b⟩:=e.vl;have c12:w.cell? ⟨c.b9,12,Ab⟩=Ac (I s d.n.log.length rc):=b▸e.blk.cell 12
 clear b;have u:=Z0 p;clear p
 conv=>arg 2;whnf
 go_wp2_with fail
 exact hK _ _ {} ⟨e,u.out,rfl⟩
variable {o:Nat}
theorem dnO1 {L:List Ent}{q i:Nat}(hc:c.Ok)(ad:m<=899000000)(x:DB d m)(ak:L.length<=200)(z:i+1+q=L.length)(an:q<o)(ho:o<=10)(hF:c.Fr a)(r:Tv a 14=Aa O ((i:Nat):Int))(s:Tv a 13=Aa O (((o-q:Nat):Int)))(hS:c.N w ⟨{ d.n with log:=X6 d.n.tm L q },d.k⟩ X)(hP:∀ a' w',c.Fr a'->Tv a' 14=Aa O ((i:Int)-1)->Tv a' 13=Aa O (((o-q:Nat):Int)-1)->c.N w' ⟨{ d.n with log:=X6 d.n.tm L (q+1) },d.k⟩ X->K a' w'):(Zp (Zb (Z1 1 (Z2 1 (Za (Z1 1 (Z2 18 (Z3 f51)))))))).wp Ad (Exit.then K Q) a w:=by
 obtain ⟨t,rfl⟩:=hF.opened;clear hF;have HS:=Z0 hS;clear hS;have ht:t 14=Aa O ((i:Nat):Int):=r;have f:t 13=Aa O (((o-q:Nat):Int)):=s;obtain ⟨D,hD⟩:=exq (o-q);rw [<-hD] at f hP;have af:0<D:=by omega
 have ao:D<=10:=by omega
 rw [ht,f];clear ht f s r hD;obtain ⟨g,e⟩:=exq (X6 d.n.tm L q);have l:g.length=L.length:=by rw [e,Z1j]
 have u:i<g.length:=by omega
 have aa:Hid (X6 d.n.tm L (q+1)=g.set i (J4 d.n.tm g[i])):=by unfold Hid;rw [dnOwn_succ _ L q i z];subst e;rfl
 have b:Hid (c.N w ⟨{ d.n with log:=g },d.k⟩ X):=e▸HS
 clear HS e;obtain ⟨ra,rc,h⟩:=b.vl;obtain ⟨p,ab,hE,j⟩:=Z1t (k:=i) (h▸b.logOwn) rfl u (by unfold maxLen;show g.length<=_;omega);subst ab;have v:=Z0 h;clear h;obtain ⟨N,hN⟩:=exq (g.length);have c12:w.cell? ⟨c.b9,12,Ab⟩=Ac (I (Ac ⟨p,0,Ab⟩) N rc):=by rw [hN,<-v.out];exact b.blk.cell 12
 have c4:w.cell? ⟨c.b9,4,Ab⟩=Ac (Aa O d.n.tm):=b.blk.cell 4;have e0:=hE.1;have f0:=j (i*7);have am:i<N:=by omega
 have y:=Z0 u;obtain ⟨T,hT⟩:=exq (d.n.tm);rw [<-hT] at c4;have HT:=Z0 hT;clear hN hE j l hT
 conv=>arg 2;whnf
 go_wp2_with fail
 refine hP _ _ {} rfl rfl ?_;rw [aa.out,HT.out];exact b.logT v i y d.n.tm
theorem dnO2 {R:Ca->Bn->Ag->Prop}{e13 e14:Int}(h:c.Ok)(p:m<=899000000)(g:DB d m)(hx:e14<0∨e13<=0)(l:c.Fr a)(e:Tv a 14=Aa O e14)(f:Tv a 13=Aa O e13)(n:∀ a',c.Fr a'->R (.exit 2) a' w):(Zp (Zb (Z1 1 (Z2 1 (Za (Z1 1 (Z2 18 (Z3 f51)))))))).wp Ad (Exit.then K R) a w:=by
 obtain ⟨t,rfl⟩:=l.opened;clear l;have i:t 14=Aa O e14:=e;have b:t 13=Aa O e13:=f;rw [i,b];clear i b f e;have j:=Z0 n;clear n
 conv=>arg 2;whnf
 by_cases h1:e14<0
 ·go_wp2_with fail
  exact j _ {}
 ·have z:e13<=0:=by omega
  have h3:¬ 0<e13:=by omega
  have y:0<=e14:=by omega
  go_wp2_with fail
  exact j _ {}
theorem dnO3 (x:c.Ok)(f:m<=899000000)(l:DB d m)(ho:o<=10)(hF:c.Fr a)(s:Tv a 14=Aa O ((d.n.log.length:Int)-1))(t:Tv a 13=Aa O (o:Nat))(hS:c.N w d X)(hK:∀ e w',c.Fr e->c.N w' ⟨{ d.n with log:=X6 d.n.tm d.n.log o },d.k⟩ X->K e w'):(Z1 1 (Z2 1 (Za (Z1 1 (Z2 18 (Z3 f51)))))).wp Ad (Exit.then K Q) a w:=by
 have p:=l.lg;rw [show Z1 1 (Z2 1 (Za (Z1 1 (Z2 18 (Z3 f51)))))=.block 2 (.loop (Zp (Zb (Z1 1 (Z2 1 (Za (Z1 1 (Z2 18 (Z3 f51))))))))) from rfl];refine Cd ?_;refine wp_loop (λa w=>∃ q:Nat,q<=o/\q<=d.n.log.length/\c.Fr a/\Tv a 14=Aa O ((d.n.log.length:Int)-1-q)/\Tv a 13=Aa O (((o-q:Nat):Int))/\c.N w ⟨{ d.n with log:=X6 d.n.tm d.n.log q },d.k⟩ X) (λa _=>(B0 (Tv a 13)).toNat) ⟨0,Bb _,Bb _,hF,by rw [s];simp,by rw [t];rfl,by rw [dnOwn_zero];exact hS⟩ ?_;rintro a1 z ⟨q,q1,q2,y,g,b,r⟩;by_cases hq:q<o/\q<d.n.log.length
 ·obtain ⟨i,hi⟩:∃ i,i+1+q=d.n.log.length:=⟨d.n.log.length-1-q,by omega⟩
  refine dnO1 (L:=d.n.log) (o:=o) (q:=q) (i:=i) x f l p hi hq.1 ho y (by rw [g];congr 1;omega) b r ?_;intro e w' v u j s2;refine ⟨⟨q+1,by omega,by omega,v,by rw [u];congr 1;push_cast;omega,by rw [j];congr 1;omega,s2⟩,?_⟩;rw [j,b];simp only [B0];omega
 ·refine dnO2 x f l (e14:=(d.n.log.length:Int)-1-q) (e13:=((o-q:Nat):Int)) (by omega) y g b ?_
  intro e v;show Exit.inBlock 2 (Exit.then K Q) (.exit 2) e z
  have he:X6 d.n.tm d.n.log q=X6 d.n.tm d.n.log o:=by
   rcases B1 q o with h | h
   ·have:q=d.n.log.length:=by omega
    rw [dnOwn_most _ _ o (by omega),this]
   ·have:q=o:=by omega
    rw [this]
  rw [he] at r;exact hK e z v r
theorem dnR50 (e:c.Ok)(s:m<=899000000)(f:DB d m)(i:c.Fr a)(j:c.N w d X)(h:∀ a' w',c.Fr a'->c.N w' ⟨d.n,d.k+1⟩ X/\Tv a' 218=.bool (decide (Z4 c.l d.k 2=0))->K a' w'):(Z2 0 (Z2 2 (Za (Z1 1 (Z2 18 (Z3 f51)))))).wp Ad (Exit.then K Q) a w:=by
 obtain ⟨t,rfl⟩:=i.opened;have u:=f.k;clear i;have q:=Z0 j;clear j;obtain ⟨p,b⟩:=exq (Z4 c.l d.k 2);have Hp:=Z0 b;rw [<-b] at h
 clear b
 conv=>arg 2;whnf
 go_wp2_with (go_at_call 53;go_loud (refine (q.pick1 e 2).mono ?_;rw [<-Hp.out];rintro r w9 ⟨rfl,hd⟩;have g:=Z0 hd;clear hd))
 exact h _ _ {} ⟨g,by simp [Bi,beq0]⟩
theorem dnR51 (i:c.Ok)(x:m<=899000000)(f:DB d m)(l:c.Fr a)(j:c.N w d X)(q:∀ a' w',c.Fr a'->c.N w' ⟨{ d.n with cm:=max 0 ((d.n.log.length:Int)-2) },d.k⟩ X->K a' w'):(Za (Z1 1 (Z2 2 (Za (Z1 1 (Z2 18 (Z3 f51))))))).wp Ad (Exit.then K Q) a w:=by
 obtain ⟨t,rfl⟩:=l.opened;have s:=f.lg;clear l;have b:=Z0 j;clear j;obtain ⟨v,rc,e⟩:=b.vl;have c12:w.cell? ⟨c.b9,12,Ab⟩=Ac (I v d.n.log.length rc):=e▸b.blk.cell 12
 clear e;have c8:=b.blk.cell 8;have f8:=b.blk.free 8;obtain ⟨M,g⟩:=exq (max 0 ((d.n.log.length:Int)-2));have HM:=Z0 g;rw [<-g] at q;clear g
 conv=>arg 2;whnf
 go_wp2_with (go_at_call 94;go_loud (refine (Xt _ _ _).mono ?_;rw [<-HM.out];rintro r w9 ⟨rfl,p⟩;obtain rfl:=p.symm;clear p))
 exact q _ _ {} (b.set 8 (by omega) _)
theorem dnI182 (f:c.Ok)(j:m<=898999000)(g:DB d m)(p:c.Fr a)(i:c.N w d X)(b:∀ a' w',c.Fr a'->c.N w' (if Z4 c.l d.k 2=0 then ⟨{ d.n with cm:=max 0 ((d.n.log.length:Int)-2) },d.k+1⟩ else ⟨d.n,d.k+1⟩) X->K a' w'):(Z2 2 (Za (Z1 1 (Z2 18 (Z3 f51))))).wp Ad (Exit.then K Q) a w:=by
 refine sqc ?_;intro q e;refine dnR50 f (by omega) g p i λa' w' h1 h2=>e _ _ ?_
 refine B7 h2.2 ?_;by_cases h:Z4 c.l d.k 2=0
 ·simp only [h,decide_true,if_true] at b ⊢
  exact dnR51 (d:=⟨d.n,d.k+1⟩) f (m:=m+1) (by omega) (g.step 1 (Ao _)) h1 h2.1 b
 ·simp only [h,decide_false,if_false,Bool.false_eq_true] at b ⊢
  exact Bz (b _ _ h1 h2.1)
end
section
variable {Q:Ca->Bn->Ag->Prop} {K:Bn->Ag->Prop} {c:DC} {d:DnS} {X:RV} {a:Bn} {w:Ag}
theorem neJ (j i:Nat):(((j:Int)+1) != (i:Int))=decide (j+1≠i):=by
 by_cases h:j+1=i
 ·have b:(j:Int)+1=i:=by omega
  simp [h,b]
 ·have b:¬(j:Int)+1=i:=by omega
  simp [h,b]
variable {m j:Nat}
theorem dnL53 (f:c.Ok)(u:m<=899000000)(g:DB d m)(x:j<c.SZ)(b:Tv a 15=Aa O ((j:Int)+1))(i:c.Fr a)(h:c.N w d X)(q:∀ a' w',c.Fr a'->Tv a' 15=Aa O ((j:Int)+1)->c.N w' d X->K a' w'):(Z2 0 (Zp (Zb (Z1 4 (Za (Z1 1 (Z2 18 (Z3 f51)))))))).wp Ad (Exit.then K Q) a w:=by
 obtain ⟨t,rfl⟩:=i.opened;clear i;have p:=Z0 h;clear h;rw [show t 15=_ from b];clear b
 conv=>arg 2;whnf
 go_wp2_with fail
 exact q _ _ {} rfl p
theorem dnL0 {R:Ca->Bn->Ag->Prop}(f:c.Ok)(s:m<=899000000)(g:DB d m)(i:c.Fr a)(b:Tv a 15=Aa O ((c.SZ:Int)+1))(h:∀ a',c.Fr a'->R (.exit 4) a' w):(Zp (Zb (Z1 4 (Za (Z1 1 (Z2 18 (Z3 f51))))))).wp Ad (Exit.then K R) a w:=by
 obtain ⟨t,rfl⟩:=i.opened;clear i;rw [show t 15=_ from b];clear b;have q:=Z0 h;clear h
 conv=>arg 2;whnf
 go_wp2_with fail
 exact q _ {}
variable {e15:Af}
theorem dnL55 (f:c.Ok)(u:m<=899000000)(g:DB d m)(b:Tv a 15=e15)(i:c.Fr a)(h:c.N w d X)(q:∀ a' w',c.Fr a'->Tv a' 15=e15->Tv a' 16=Aa O 0->Tv a' 17=Aa O 0->Tv a' 18=Aa O 0->Tv a' 19=Aa O 0->c.N w' d X->K a' w'):(Z2 0 (Zb (Z2 1 (Zp (Zb (Z1 4 (Za (Z1 1 (Z2 18 (Z3 f51)))))))))).wp Ad (Exit.then K Q) a w:=by
 obtain ⟨t,rfl⟩:=i.opened;clear i;have p:=Z0 h;clear h;rw [show t 15=_ from b];clear b
 conv=>arg 2;whnf
 go_wp2_with fail
 exact q _ _ {} rfl rfl rfl rfl rfl p
variable {e16 e17 e18 e19:Af}
theorem dnL56 (n:c.Ok)(r:m<=899000000)(l:DB d m)(i:Tv a 16=e16)(h:Tv a 17=e17)(g:Tv a 18=e18)(b:Tv a 19=e19)(f:Tv a 15=Aa O ((j:Int)+1))(o:c.Fr a)(p:c.N w d X)(hP:∀ a' w',c.Fr a'->Tv a' 16=e16->Tv a' 17=e17->Tv a' 18=e18->Tv a' 19=e19->Tv a' 15=Aa O ((j:Int)+1)->Tv a' 232=.bool (decide (j+1≠c.ID))->c.N w' d X->K a' w'):(Z2 0 (Z2 1 (Zb (Z2 1 (Zp (Zb (Z1 4 (Za (Z1 1 (Z2 18 (Z3 f51))))))))))).wp Ad (Exit.then K Q) a w:=by
 obtain ⟨t,rfl⟩:=o.opened;clear o;have q:=Z0 p;clear p;rw [show t 15=_ from f,show t 16=_ from i,show t 17=_ from h,show t 18=_ from g,show t 19=_ from b];clear f i h g b
 conv=>arg 2;whnf
 go_wp2_with fail
 exact hP _ _ {} rfl rfl rfl rfl rfl (by simp only [Bi];exact congrArg _ (neJ j _)) q
theorem dnL57 (hc:c.Ok)(aq:m<=899000000)(y:DB d m)(ae:Tv a 15=e15)(x:c.Fr a)(hS:c.N w d X)(s:∀ a' w',c.Fr a'->Tv a' 15=e15->Tv a' 16=Aa O ((d.n.log.length+1-Z4 c.l d.k (min d.n.log.length 6+1):Nat):Int)->c.N w' ⟨d.n,d.k+1⟩ X->K a' w'):(Z2 0 (Za (Z1 1 (Z2 1 (Zb (Z2 1 (Zp (Zb (Z1 4 (Za (Z1 1 (Z2 18 (Z3 f51))))))))))))).wp Ad (Exit.then K Q) a w:=by
 obtain ⟨z,rc,v⟩:=hS.vl;have r:=Z0 v;clear v;obtain ⟨N,hN⟩:=exq (d.n.log.length);rw [<-hN] at s r;have ar:N<=200:=hN▸y.lg
 clear hN;obtain ⟨mi,hm⟩:=exq (min (N:Int) 6);have al:=Z0 hm;obtain ⟨M,HM⟩:=exq (min N 6+1);rw [<-HM] at s;have a2:(M:Int)=mi+1:=by omega
 have a1:M<=7:=by omega
 have ao:M<=N+1:=by omega
 obtain ⟨pD,f⟩:=exq (Z4 c.l d.k M);rw [<-f] at s;have aa:=Z0 f;have bD:pD<M:=f▸Z6 _ _ _ (by omega)
 clear f hm HM;obtain ⟨NX,u⟩:=exq (N+1-pD);rw [<-u] at s;have an:(NX:Int)=(N:Int)+1-pD:=by omega
 clear u;have av:=y.k
 conv=>arg 2;whnf
 refine Z14 [Ac 233,Ac 234,Ac 235,Ac 236,Ac 237,Ac 238,Ac 239,Ac 240,Ac 241,Ac 242,Ac 243,Ac 244,Ac 16] [Ae (Ac ⟨c.b9,12,Ab⟩),I z N rc,Aa O (N:Int),Aa O ((N:Int)+1),Ae (Ac ⟨c.g,0,Ab⟩),Ae (Ac ⟨c.b9,12,Ab⟩),I z N rc,Aa O (N:Int),Aa O mi,Aa O (M:Int),Aa O (pD:Int),Aa O (NX:Int),Aa O (NX:Int)] (λW=>c.N W d X) (λW=>c.N W d X) (λW=>c.N W ⟨d.n,d.k+1⟩ X) 10 10 (by kernel_rfl) rfl x.sz rfl (by decide) (by decide) (by decide) [] (.inl rfl) hS.drew (λa' w' L l R t=>s a' w' (x.rf R) (R.keep 15 _ rfl ae) (R.new 12 _ _ (l 12 (by decide)) rfl rfl) t) ⟨_,_,_,rfl,rfl,rfl,λu1 u2 u3 u4 u5=>?_⟩ (.inl rfl) (Zq (Zq (Zq (Zq (Zq (Zq (Zq (Zq (Zq (Zq (Zq (Zq (Zq (lt_z) (λ_ _=>?_)) (λ_ _=>?_)) (λ_ _=>?_)) (λ_ _=>?_)) (λ_ _=>?_)) (λ_ _=>?_)) (λ_ _=>?_)) (λ_ _=>?_)) (λ_ _=>?_)) (λ_ _=>?_)) (λp q=>(p rfl).elim)) (λ_ _=>?_)) (λ_ _=>?_))
 all_goals clear s
 ·have i:=u3.y 4
  have o:=u3.y 9;refine Zs rfl rfl (Yg (N:=53) rfl (λ_ _=>by go_simp) #[Ae (Ac ⟨c.g,0,Ab⟩),Aa O (M:Int)] (by simp only [Bm,Bq,Bu,i,o]) ?_);refine Calls.mono (DC.N.pick1 u5 hc M) ?_;rw [<-aa.out];rintro e w2 ⟨rfl,hd⟩;exact ⟨_,rfl,rfl,by rw [if_pos rfl];exact hd⟩
 ·refine PO.val λu1 u2 u3 u4 u5=>?_
  have ag:=u4.z x.e9;go_simp
 ·refine PO.val λu1 u2 u3 u4 u5=>?_
  have b:u2.cell? ⟨c.b9,12,Ab⟩=Ac (I z N rc):=by rcases u5 with h | h | h <;> (rw [<-r.out];exact (DC.N.blk h).cell 12)
  have ah:=u3.z 0;go_simp
 ·refine PO.val λu1 u2 u3 u4 u5=>?_
  have ak:=u3.z 1;go_simp
 ·refine PO.val λu1 u2 u3 u4 u5=>?_
  have aj:=u3.z 2;go_simp;rw [Bl];omega
 ·refine PO.val λu1 u2 u3 u4 u5=>?_
  have au:=u4.z x.e0;go_simp
 ·refine PO.val λu1 u2 u3 u4 u5=>?_
  have ag:=u4.z x.e9;go_simp
 ·refine PO.val λu1 u2 u3 u4 u5=>?_
  have b:u2.cell? ⟨c.b9,12,Ab⟩=Ac (I z N rc):=by rcases u5 with h | h | h <;> (rw [<-r.out];exact (DC.N.blk h).cell 12)
  have ai:=u3.z 5;go_simp
 ·refine PO.val λu1 u2 u3 u4 u5=>?_
  have ad:=u3.z 6;go_simp
 ·refine PO.call (N:=55) #[Aa O (N:Int),Aa O 6] rfl rfl rfl rfl rfl (λ_ _=>by go_simp) (λu1 u3 u4=>?_) λu2=>?_
  ·simp only [Bm,Bq,Bu,u3.y 7,Z51]
  ·rw [al.out];exact Xh _ _ _
 ·refine PO.val λu1 u2 u3 u4 u5=>?_
  have ab:=u3.z 8;go_simp;rw [Bl];omega
 ·refine PO.val λu1 u2 u3 u4 u5=>?_
  have am:=u3.z 3;have af:=u3.z 10;go_simp;rw [Bl];omega
 ·refine PO.val λu1 u2 u3 u4 u5=>?_
  have ac:=u3.z 11;go_simp
variable {NX:Nat}
theorem dnL58 (h:c.Ok)(y:m<=899000000)(i:DB d m)(hx:0<NX)(x:NX<=1000)(b:Tv a 15=e15)(f:Tv a 16=Aa O ((NX:Nat):Int))(q:c.Fr a)(u:c.N w d X)(s:∀ a' w',c.Fr a'->Tv a' 15=e15->Tv a' 16=Aa O ((NX:Nat):Int)->Tv a' 17=Aa O ((Z4 c.l d.k NX:Nat):Int)->c.N w' ⟨d.n,d.k+Zf NX⟩ X->K a' w'):(Z2 1 (Za (Z1 1 (Z2 1 (Zb (Z2 1 (Zp (Zb (Z1 4 (Za (Z1 1 (Z2 18 (Z3 f51))))))))))))).wp Ad (Exit.then K Q) a w:=by
 obtain ⟨t,rfl⟩:=q.opened;have z:=i.k;clear q;have v:=Z0 u;clear u;rw [show t 16=_ from f,show t 15=_ from b];clear f b;obtain ⟨p,g⟩:=exq (Z4 c.l d.k NX);have Hp:=Z0 g;rw [<-g] at s
 clear g
 conv=>arg 2;whnf
 go_wp2_with (go_at_call 53;go_loud (refine (v.pick h NX).mono ?_;rw [<-Hp.out];rintro r w9 ⟨rfl,hd⟩;have o:=Z0 hd;clear hd))
 exact s _ _ {} rfl rfl rfl o
theorem dnL59 (i:c.Ok)(y:m<=899000000)(o:DB d m)(b:Tv a 15=e15)(g:Tv a 16=e16)(f:Tv a 17=e17)(s:c.Fr a)(v:c.N w d X)(u:∀ a' w',c.Fr a'->Tv a' 15=e15->Tv a' 16=e16->Tv a' 17=e17->Tv a' 250=.bool (decide (Z4 c.l d.k 2=0))->c.N w' ⟨d.n,d.k+1⟩ X->K a' w'):(Z2 0 (Z2 2 (Za (Z1 1 (Z2 1 (Zb (Z2 1 (Zp (Zb (Z1 4 (Za (Z1 1 (Z2 18 (Z3 f51)))))))))))))).wp Ad (Exit.then K Q) a w:=by
 obtain ⟨t,rfl⟩:=s.opened;have z:=o.k;clear s;have x:=Z0 v;clear v;rw [show t 15=_ from b,show t 16=_ from g,show t 17=_ from f];clear b g f;obtain ⟨p,h⟩:=exq (Z4 c.l d.k 2);have Hp:=Z0 h;rw [<-h] at u
 clear h
 conv=>arg 2;whnf
 go_wp2_with (go_at_call 53;go_loud (refine (x.pick1 i 2).mono ?_;rw [<-Hp.out];rintro r w9 ⟨rfl,hd⟩;have q:=Z0 hd;clear hd))
 exact u _ _ {} rfl rfl rfl (by simp [Bi,beq0]) q
theorem dnL60 (h:c.Ok)(p:m<=899000000)(g:DB d m)(z:0<NX)(o:NX<=1000)(b:Tv a 15=e15)(f:Tv a 16=Aa O ((NX:Nat):Int))(i:c.Fr a)(l:c.N w d X)(y:∀ a' w',c.Fr a'->Tv a' 15=e15->Tv a' 16=Aa O ((NX:Nat):Int)->Tv a' 17=Aa O ((NX:Int)-1)->c.N w' d X->K a' w'):(Za (Z1 1 (Z2 2 (Za (Z1 1 (Z2 1 (Zb (Z2 1 (Zp (Zb (Z1 4 (Za (Z1 1 (Z2 18 (Z3 f51))))))))))))))).wp Ad (Exit.then K Q) a w:=by
 obtain ⟨t,rfl⟩:=i.opened;clear i;have n:=Z0 l;clear l;rw [show t 16=_ from f,show t 15=_ from b];clear f b
 conv=>arg 2;whnf
 go_wp2_with fail
 exact y _ _ {} rfl rfl rfl n
theorem dnL61 (l:c.Ok)(x:m<=899000000)(i:DB d m)(b:Tv a 15=e15)(g:Tv a 16=e16)(f:Tv a 17=e17)(s:c.Fr a)(v:c.N w d X)(u:∀ a' w',c.Fr a'->Tv a' 15=e15->Tv a' 16=e16->Tv a' 17=e17->Tv a' 20=Aa O ((min d.n.nw.toNat (c.EL+2):Nat):Int)->c.N w' d X->K a' w'):(Z2 3 (Za (Z1 1 (Z2 1 (Zb (Z2 1 (Zp (Zb (Z1 4 (Za (Z1 1 (Z2 18 (Z3 f51))))))))))))).wp Ad (Exit.then K Q) a w:=by
 obtain ⟨t,rfl⟩:=s.opened;have ab:=l.el;have ad:=i.nw;clear s;have o:=Z0 v;clear v;rw [show t 15=_ from b,show t 16=_ from g,show t 17=_ from f];clear b g f;have c9:w.cell? ⟨c.b9,9,Ab⟩=Ac (Aa O d.n.nw):=o.blk.cell 9;obtain ⟨M,p⟩:=exq (min d.n.nw ((c.EL:Int)+2));have HM:=Z0 p;have h:((min d.n.nw.toNat (c.EL+2):Nat):Int)=M:=by omega
 rw [h] at u;clear p h
 conv=>arg 2;whnf
 go_wp2_with (go_at_call 55;go_loud (refine (Xh _ _ _).mono ?_;rw [<-HM.out];rintro r w9 ⟨rfl,q⟩;obtain rfl:=q.symm;clear q))
 exact u _ _ {} rfl rfl rfl rfl o
variable {bk:Nat}
theorem dnL62 (u:c.Ok)(ai:m<=899000000)(hb:DB d m)(ar:bk<=2000)(aa:Tv a 15=e15)(af:Tv a 16=e16)(ae:Tv a 17=e17)(o:Tv a 20=Aa O ((bk:Nat):Int))(s:c.Fr a)(hS:c.N w d X)(v:∀ a' w',c.Fr a'->Tv a' 15=e15->Tv a' 16=e16->Tv a' 17=e17->Tv a' 20=Aa O ((bk:Nat):Int)->Tv a' 18=Aa O (d.n.nw-((Z4 c.l d.k (bk+1):Nat):Int))->c.N w' ⟨d.n,d.k+Zf (bk+1)⟩ X->K a' w'):(Z2 4 (Za (Z1 1 (Z2 1 (Zb (Z2 1 (Zp (Zb (Z1 4 (Za (Z1 1 (Z2 18 (Z3 f51))))))))))))).wp Ad (Exit.then K Q) a w:=by
 obtain ⟨M,HM⟩:=exq (bk+1);rw [<-HM] at v;obtain ⟨r,b⟩:=exq (Z4 c.l d.k M);rw [<-b] at v;have y:=Z0 b;have bD:r<M:=b▸Z6 _ _ _ (by omega)
 clear b;have au:=hb.nw;have ak:=hb.k
 conv=>arg 2;whnf
 refine Z14 [Ac 258,Ac 259,Ac 260,Ac 261,Ac 262,Ac 263,Ac 264,Ac 18] [Ae (Ac ⟨c.b9,9,Ab⟩),Aa O d.n.nw,Ae (Ac ⟨c.g,0,Ab⟩),Aa O ((bk:Nat):Int),Aa O (M:Int),Aa O (r:Int),Aa O (d.n.nw-(r:Int)),Aa O (d.n.nw-(r:Int))] (λW=>c.N W d X) (λW=>c.N W d X) (λW=>c.N W ⟨d.n,d.k+Zf M⟩ X) 5 5 (by kernel_rfl) rfl s.sz rfl (by decide) (by decide) (by decide) [] (.inl rfl) hS.drew (λa' w' L l R t=>v a' w' (s.rf R) (R.keep 15 _ rfl aa) (R.keep 16 _ rfl af) (R.keep 17 _ rfl ae) (R.keep 20 _ rfl o) (R.new 7 _ _ (l 7 (by decide)) rfl rfl) t) ⟨_,_,_,rfl,rfl,rfl,λu1 u2 u3 u4 u5=>?_⟩ (.inl rfl) (Zq (Zq (Zq (Zq (Zq (Zq (Zq (Zq (lt_z) (λ_ _=>?_)) (λ_ _=>?_)) (λ_ _=>?_)) (λ_ _=>?_)) (λ_ _=>?_)) (λp q=>(p rfl).elim)) (λ_ _=>?_)) (λ_ _=>?_))
 all_goals clear v
 ·have f:=u3.y 2
  have i:=u3.y 4;refine Zs rfl rfl (Yg (N:=53) rfl (λ_ _=>by go_simp) #[Ae (Ac ⟨c.g,0,Ab⟩),Aa O (M:Int)] (by simp only [Bm,Bq,Bu,f,i]) ?_);refine Calls.mono (DC.N.pick u5 u M) ?_;rw [<-y.out];rintro e w2 ⟨rfl,hd⟩;exact ⟨_,rfl,rfl,by rw [if_pos rfl];exact hd⟩
 ·refine PO.val λu1 u2 u3 u4 u5=>?_
  have al:=u4.z s.e9;go_simp
 ·refine PO.val λu1 u2 u3 u4 u5=>?_
  have x:u2.cell? ⟨c.b9,9,Ab⟩=Ac (Aa O d.n.nw):=by rcases u5 with h | h | h <;> exact (DC.N.blk h).cell 9
  have ag:=u3.z 0;go_simp
 ·refine PO.val λu1 u2 u3 u4 u5=>?_
  have aj:=u4.z s.e0;go_simp
 ·refine PO.val λu1 u2 u3 u4 u5=>?_
  have ah:=u4.z o;go_simp
 ·refine PO.val λu1 u2 u3 u4 u5=>?_
  have z:=u3.z 3;go_simp;rw [Bl];omega
 ·refine PO.val λu1 u2 u3 u4 u5=>?_
  have ac:=u3.z 1;have ab:=u3.z 5;go_simp;rw [Bl];omega
 ·refine PO.val λu1 u2 u3 u4 u5=>?_
  have ad:=u3.z 6;go_simp
theorem dnL63 (s:c.Ok)(ak:m<=899000000)(y:DB d m)(av:bk<=2000)(ab:Tv a 15=e15)(ai:Tv a 16=e16)(ah:Tv a 17=e17)(af:Tv a 18=e18)(ac:Tv a 20=Aa O ((bk:Nat):Int))(r:c.Fr a)(hS:c.N w d X)(u:∀ a' w',c.Fr a'->Tv a' 15=e15->Tv a' 16=e16->Tv a' 17=e17->Tv a' 18=e18->Tv a' 19=Aa O (d.n.nw-((Z4 c.l d.k (bk+1):Nat):Int))->c.N w' ⟨d.n,d.k+Zf (bk+1)⟩ X->K a' w'):(Z1 5 (Za (Z1 1 (Z2 1 (Zb (Z2 1 (Zp (Zb (Z1 4 (Za (Z1 1 (Z2 18 (Z3 f51))))))))))))).wp Ad (Exit.then K Q) a w:=by
 obtain ⟨M,HM⟩:=exq (bk+1);rw [<-HM] at u;obtain ⟨o,b⟩:=exq (Z4 c.l d.k M);rw [<-b] at u;have x:=Z0 b;have bD:o<M:=b▸Z6 _ _ _ (by omega)
 clear b;have aw:=y.nw;have am:=y.k
 conv=>arg 2;whnf
 refine Z14 [Ac 265,Ac 266,Ac 267,Ac 268,Ac 269,Ac 270,Ac 271,Ac 19] [Ae (Ac ⟨c.b9,9,Ab⟩),Aa O d.n.nw,Ae (Ac ⟨c.g,0,Ab⟩),Aa O ((bk:Nat):Int),Aa O (M:Int),Aa O (o:Int),Aa O (d.n.nw-(o:Int)),Aa O (d.n.nw-(o:Int))] (λW=>c.N W d X) (λW=>c.N W d X) (λW=>c.N W ⟨d.n,d.k+Zf M⟩ X) 5 5 (by kernel_rfl) rfl r.sz rfl (by decide) (by decide) (by decide) [] (.inl rfl) hS.drew (λa' w' L l R t=>u a' w' (r.rf R) (R.keep 15 _ rfl ab) (R.keep 16 _ rfl ai) (R.keep 17 _ rfl ah) (R.keep 18 _ rfl af) (R.new 7 _ _ (l 7 (by decide)) rfl rfl) t) ⟨_,_,_,rfl,rfl,rfl,λu1 u2 u3 u4 u5=>?_⟩ (.inl rfl) (Zq (Zq (Zq (Zq (Zq (Zq (Zq (Zq (lt_z) (λ_ _=>?_)) (λ_ _=>?_)) (λ_ _=>?_)) (λ_ _=>?_)) (λ_ _=>?_)) (λp q=>(p rfl).elim)) (λ_ _=>?_)) (λ_ _=>?_))
 all_goals clear u
 ·have i:=u3.y 2
  have f:=u3.y 4;refine Zs rfl rfl (Yg (N:=53) rfl (λ_ _=>by go_simp) #[Ae (Ac ⟨c.g,0,Ab⟩),Aa O (M:Int)] (by simp only [Bm,Bq,Bu,i,f]) ?_);refine Calls.mono (DC.N.pick u5 s M) ?_;rw [<-x.out];rintro e w2 ⟨rfl,hd⟩;exact ⟨_,rfl,rfl,by rw [if_pos rfl];exact hd⟩
 ·refine PO.val λu1 u2 u3 u4 u5=>?_
  have an:=u4.z r.e9;go_simp
 ·refine PO.val λu1 u2 u3 u4 u5=>?_
  have v:u2.cell? ⟨c.b9,9,Ab⟩=Ac (Aa O d.n.nw):=by rcases u5 with h | h | h <;> exact (DC.N.blk h).cell 9
  have ad:=u3.z 0;go_simp
 ·refine PO.val λu1 u2 u3 u4 u5=>?_
  have al:=u4.z r.e0;go_simp
 ·refine PO.val λu1 u2 u3 u4 u5=>?_
  have aj:=u4.z ac;go_simp
 ·refine PO.val λu1 u2 u3 u4 u5=>?_
  have z:=u3.z 3;go_simp;rw [Bl];omega
 ·refine PO.val λu1 u2 u3 u4 u5=>?_
  have ag:=u3.z 1;have aa:=u3.z 5;go_simp;rw [Bl];omega
 ·refine PO.val λu1 u2 u3 u4 u5=>?_
  have ae:=u3.z 6;go_simp
variable {e:Int}
theorem dnL64 (hc:c.Ok)(ab:m<=899000000)(v:DB d m)(ae:d.n.nx.length<=1000)(h:Tv a 15=e15)(o:Tv a 17=e17)(i:Tv a 18=e18)(g:Tv a 19=e19)(p:Tv a 16=Aa O e)(hF:c.Fr a)(hS:c.N w d X)(hP:∀ a' w' x',c.Fr a'->Tv a' 15=e15->Tv a' 17=e17->Tv a' 18=e18->Tv a' 19=e19->c.N w' ⟨{ d.n with nx:=d.n.nx ++ [e] },d.k⟩ x'->K a' w'):(Z2 2 (Zb (Z2 1 (Zp (Zb (Z1 4 (Za (Z1 1 (Z2 18 (Z3 f51)))))))))).wp Ad (Exit.then K Q) a w:=by
 obtain ⟨t,rfl⟩:=hF.opened;clear hF;have f:=Z0 hS;clear hS;rw [show t 16=_ from p,show t 15=_ from h,show t 17=_ from o,show t 18=_ from i,show t 19=_ from g];clear p h o i g;obtain ⟨ga,u,r⟩:=f.nxOwn.shape;have s:=Z0 r;have c13:w.cell? ⟨c.b9,14,Ab⟩=Ac (I ga d.n.nx.length u):=s.out▸f.blk.cell 14
 have HO:Hid (Zc inC 1 3 w c.w0.heap.size (I ga d.n.nx.length u) d.n.nx):=s.out▸f.nxOwn
 have ac:=f.wsize;clear r
 conv=>arg 2;whnf
 go_wp2_with (at_builtin;refine Yl Z16 rfl _ _ rfl e (HO.below baq) rfl _ 1 (Blk.new _ _ _).range rfl (by omega) (by simp;omega) ?_;intro v2 w2 b l;obtain ⟨a2,n2,c2,x⟩:∃ a n c,v2=I a n c:=(by obtain ⟨a,c,e⟩:=b.shape;exact ⟨a,_,c,e⟩);subst x;have y:=Z0 b;have q:Hid (Ye (w.alloc (.cells #[Aa O e] 3)) X.vn w2 (I a2 n2 c2)):=(s.out▸l);have z:=f.nxBlk baq b q;have aa:w2.cell? ⟨c.b9,14,Ab⟩=Ac (I ga d.n.nx.length u):=(s.out▸z.cell 14);have ak:=z.free 14;clear b l z)
 exact hP _ _ _ {} rfl rfl rfl rfl (f.nxNew baq y q)
theorem dnL65 (z:c.Ok)(ab:m<=899000000)(u:DB d m)(ae:d.n.mt.length<=1000)(h:Tv a 15=e15)(i:Tv a 18=e18)(g:Tv a 19=e19)(o:Tv a 17=Aa O e)(hF:c.Fr a)(hS:c.N w d X)(hP:∀ a' w' x',c.Fr a'->Tv a' 15=e15->Tv a' 18=e18->Tv a' 19=e19->c.N w' ⟨{ d.n with mt:=d.n.mt ++ [e] },d.k⟩ x'->K a' w'):(Z2 3 (Zb (Z2 1 (Zp (Zb (Z1 4 (Za (Z1 1 (Z2 18 (Z3 f51)))))))))).wp Ad (Exit.then K Q) a w:=by
 obtain ⟨t,rfl⟩:=hF.opened;clear hF;have f:=Z0 hS;clear hS;rw [show t 17=_ from o,show t 15=_ from h,show t 18=_ from i,show t 19=_ from g];clear o h i g;obtain ⟨ga,s,q⟩:=f.mtOwn.shape;have r:=Z0 q;have c13:w.cell? ⟨c.b9,15,Ab⟩=Ac (I ga d.n.mt.length s):=r.out▸f.blk.cell 15
 have HO:Hid (Zc inC 1 3 w c.w0.heap.size (I ga d.n.mt.length s) d.n.mt):=r.out▸f.mtOwn
 have ac:=f.wsize;clear q
 conv=>arg 2;whnf
 go_wp2_with (at_builtin;refine Yl Z16 rfl _ _ rfl e (HO.below baq) rfl _ 1 (Blk.new _ _ _).range rfl (by omega) (by simp;omega) ?_;intro v2 w2 b l;obtain ⟨a2,n2,c2,v⟩:∃ a n c,v2=I a n c:=(by obtain ⟨a,c,e⟩:=b.shape;exact ⟨a,_,c,e⟩);subst v;have x:=Z0 b;have p:Hid (Ye (w.alloc (.cells #[Aa O e] 3)) X.vm w2 (I a2 n2 c2)):=(r.out▸l);have y:=f.mtBlk baq b p;have aa:w2.cell? ⟨c.b9,15,Ab⟩=Ac (I ga d.n.mt.length s):=(r.out▸y.cell 15);have ak:=y.free 15;clear b l y)
 exact hP _ _ _ {} rfl rfl rfl (f.mtNew baq x p)
theorem dnL66 (y:c.Ok)(ab:m<=899000000)(s:DB d m)(ae:d.n.se.length<=1000)(h:Tv a 15=e15)(g:Tv a 19=e19)(i:Tv a 18=Aa O e)(hF:c.Fr a)(hS:c.N w d X)(hP:∀ a' w' x',c.Fr a'->Tv a' 15=e15->Tv a' 19=e19->c.N w' ⟨{ d.n with se:=d.n.se ++ [e] },d.k⟩ x'->K a' w'):(Z2 4 (Zb (Z2 1 (Zp (Zb (Z1 4 (Za (Z1 1 (Z2 18 (Z3 f51)))))))))).wp Ad (Exit.then K Q) a w:=by
 obtain ⟨t,rfl⟩:=hF.opened;clear hF;have f:=Z0 hS;clear hS;rw [show t 18=_ from i,show t 15=_ from h,show t 19=_ from g];clear i h g;obtain ⟨z,r,p⟩:=f.seOwn.shape;have q:=Z0 p;have c13:w.cell? ⟨c.b9,16,Ab⟩=Ac (I z d.n.se.length r):=q.out▸f.blk.cell 16
 have HO:Hid (Zc inC 1 3 w c.w0.heap.size (I z d.n.se.length r) d.n.se):=q.out▸f.seOwn
 have ac:=f.wsize;clear p
 conv=>arg 2;whnf
 go_wp2_with (at_builtin;refine Yl Z16 rfl _ _ rfl e (HO.below baq) rfl _ 1 (Blk.new _ _ _).range rfl (by omega) (by simp;omega) ?_;intro v2 w2 b l;obtain ⟨a2,n2,c2,u⟩:∃ a n c,v2=I a n c:=(by obtain ⟨a,c,e⟩:=b.shape;exact ⟨a,_,c,e⟩);subst u;have v:=Z0 b;have o:Hid (Ye (w.alloc (.cells #[Aa O e] 3)) X.vs w2 (I a2 n2 c2)):=(q.out▸l);have x:=f.seBlk baq b o;have aa:w2.cell? ⟨c.b9,16,Ab⟩=Ac (I z d.n.se.length r):=(q.out▸x.cell 16);have ak:=x.free 16;clear b l x)
 exact hP _ _ _ {} rfl rfl (f.seNew baq v o)
theorem dnL67 (x:c.Ok)(ab:m<=899000000)(r:DB d m)(ae:d.n.st.length<=1000)(h:Tv a 15=e15)(g:Tv a 19=Aa O e)(z:c.Fr a)(hS:c.N w d X)(hP:∀ a' w' x',c.Fr a'->Tv a' 15=e15->c.N w' ⟨{ d.n with st:=d.n.st ++ [e] },d.k⟩ x'->K a' w'):(Z1 5 (Zb (Z2 1 (Zp (Zb (Z1 4 (Za (Z1 1 (Z2 18 (Z3 f51)))))))))).wp Ad (Exit.then K Q) a w:=by
 obtain ⟨t,rfl⟩:=z.opened;clear z;have f:=Z0 hS;clear hS;rw [show t 19=_ from g,show t 15=_ from h];clear g h;obtain ⟨y,q,o⟩:=f.stOwn.shape;have p:=Z0 o;have c13:w.cell? ⟨c.b9,17,Ab⟩=Ac (I y d.n.st.length q):=p.out▸f.blk.cell 17
 have HO:Hid (Zc inC 1 3 w c.w0.heap.size (I y d.n.st.length q) d.n.st):=p.out▸f.stOwn
 have ac:=f.wsize;clear o
 conv=>arg 2;whnf
 go_wp2_with (at_builtin;refine Yl Z16 rfl _ _ rfl e (HO.below baq) rfl _ 1 (Blk.new _ _ _).range rfl (by omega) (by simp;omega) ?_;intro v2 w2 b i;obtain ⟨a2,n2,c2,s⟩:∃ a n c,v2=I a n c:=(by obtain ⟨a,c,e⟩:=b.shape;exact ⟨a,_,c,e⟩);subst s;have u:=Z0 b;have l:Hid (Ye (w.alloc (.cells #[Aa O e] 3)) X.vt w2 (I a2 n2 c2)):=(p.out▸i);have v:=f.stBlk baq b l;have aa:w2.cell? ⟨c.b9,17,Ab⟩=Ac (I y d.n.st.length q):=(p.out▸v.cell 17);have ak:=v.free 17;clear b i v)
 exact hP _ _ _ {} rfl (f.stNew baq u l)
theorem dnL54 (f:c.Ok)(u:m<=899000000)(g:DB d m)(x:j<c.SZ)(b:Tv a 15=Aa O ((j:Int)+1))(i:c.Fr a)(h:c.N w d X)(q:∀ a' w',c.Fr a'->Tv a' 15=Aa O ((j:Int)+1+1)->c.N w' d X->K a' w'):(Z1 2 (Zp (Zb (Z1 4 (Za (Z1 1 (Z2 18 (Z3 f51)))))))).wp Ad (Exit.then K Q) a w:=by
 obtain ⟨t,rfl⟩:=i.opened;have o:=f.sz;clear i;have p:=Z0 h;clear h;rw [show t 15=_ from b];clear b
 conv=>arg 2;whnf
 go_wp2_with fail
 exact q _ _ {} rfl p
end
section
variable {Q:Ca->Bn->Ag->Prop} {K:Bn->Ag->Prop} {c:DC} {d:DnS} {X:RV} {a:Bn} {w:Ag}
variable {m:Nat}
theorem dnG3 {s0:DnG}(r:c.Ok)(aa:m<=890000000)(g:DB d m)(y:s0.gr.length<=100)(ad:s0.ex<=100)(z:s0.k<=890000000)(hF:c.Fr a)(t:Tv a 12=Aa O 1)(h:Tv a 11=Aa O (s0.ex:Nat))(hS:c.N w ⟨{ d.n with gr:=s0.gr },s0.k⟩ X)(hK:∀ e w' q,c.Fr e->c.N w' ⟨{ d.n with gr:=(Je c.l c.ID s0 c.SZ).gr },(Je c.l c.ID s0 c.SZ).k⟩ q->K e w'):(Z1 2 (Za (Z1 1 (Z2 17 (Z3 f51))))).wp Ad (Exit.then K Q) a w:=by
 have ac:=r.sz;rw [show Z1 2 (Za (Z1 1 (Z2 17 (Z3 f51))))=.block 0 (.loop (Zp (Zb (Z1 2 (Za (Z1 1 (Z2 17 (Z3 f51)))))))) from rfl];refine Cd ?_;refine wp_loop (λa w=>∃(j:Nat) (x:RV),j<=c.SZ/\c.Fr a/\Tv a 12=Aa O ((j:Int)+1)/\Tv a 11=Aa O ((Je c.l c.ID s0 j).ex:Nat)/\c.N w ⟨{ d.n with gr:=(Je c.l c.ID s0 j).gr },(Je c.l c.ID s0 j).k⟩ x) (λa _=>c.SZ+1-(B0 (Tv a 12)).toNat) ⟨0,X,Bb _,hF,t,h,hS⟩ ?_;rintro a1 w1 ⟨j,x,hj,v,b,o,p⟩;have ab:=dnGrK_le c.l c.ID s0 j;rcases B1 j c.SZ with hlt | hge
 ·refine dnG1 (d:=d) (s:=Je c.l c.ID s0 j) r (by omega) g hlt (by omega) (by omega) (by omega) v b o p ?_
  intro e w' q u f i s2;refine ⟨⟨j+1,q,by omega,u,by rw [f];rfl,i,s2⟩,?_⟩;rw [f,b];simp only [B0];omega
 ·have he:j=c.SZ:=by omega
  subst he;refine dnG2 (d:=⟨{ d.n with gr:=(Je c.l c.ID s0 c.SZ).gr },(Je c.l c.ID s0 c.SZ).k⟩) (e11:=undef) r (m:=895000000) (by omega) ⟨by show (Je c.l c.ID s0 c.SZ).k<=_;omega,g.nw,g.lg,g.tm⟩ v b p ?_;intro e u;exact hK e w1 x u p
theorem dnI17 (b:c.Ok)(t:m<=880000000)(f:DB d m)(p:d.n.gr.length<=100)(u:c.Fr a)(s:c.N w d X)(e:∀ a' w' x',c.Fr a'->c.N w' (Z0d c.l c.h d) x'->K a' w'):(Z2 17 (Z3 f51)).wp Ad (Exit.then K Q) a w:=by
 have r:=b.sz;have q:=f.k;refine sqc ?_;intro z i;refine dnR33 b (by omega) f u s λa1 w1 f1 h1=>i _ _ ?_
 refine B7 h1.2 ?_;unfold Z0d at e;by_cases h:d.n.ro=1∨d.n.ro=2
 ·simp only [h,decide_true,if_true] at e ⊢
  refine sqf (λx=>.seq (Z2 1 x) (Z1 2 x)) ?_;intro v g;refine dnR34 b (by omega) f f1 h1.1 λa2 w2 f2 h2=>g _ _ ?_
  refine A0 ?_;intro y o;have x:=Z6 c.l d.k (c.SZ / 2);refine dnR35 (d:=⟨d.n,d.k+1⟩) b (m:=m+1) (by omega) (f.step 1 (Ao _)) h2.2 f2 h2.1 λa3 w3 f3 h3=>o _ _ ?_
  exact dnG3 (d:=d) (s0:=⟨d.n.gr,Z4 c.l d.k (c.SZ / 2),d.k+1⟩) b (m:=m) (by omega) f p (by show Z4 c.l d.k (c.SZ / 2)<=100;omega) (by show d.k+1<=_;omega) f3 h3.2.2 h3.2.1 h3.1 e
 ·simp only [h,decide_false,if_false,Bool.false_eq_true] at e ⊢
  exact Bz (e _ _ _ f1 h1.1)
def Z3s (l:List Int)(h:DnH)(LN:Nat)(nw:Int)(r:DnR)(j:Nat):DnR:=
  if j+1=h.id then ⟨r.nx ++ [0],r.mt ++ [0],r.se ++ [0],r.st ++ [0],r.k⟩
  else
   let m6:=min LN 6+1
   let next:Nat:=LN+1-Z4 l r.k m6
   let k1:=r.k+1
   let mt0:=Z4 l k1 next
   let k2:=k1+Zf next
   let mt:Int:=if Z4 l k2 2=0 then (next:Int)-1 else mt0
   let bk:=min nw.toNat (h.el+2)+1
   let se:Int:=nw-(Z4 l (k2+1) bk:Nat)
   let st:Int:=nw-(Z4 l (k2+1+Zf bk) bk:Nat)
   ⟨r.nx ++ [(next:Int)],r.mt ++ [mt],r.se ++ [se],r.st ++ [st],k2+1+Zf bk+Zf bk⟩
theorem Z54 (l:List Int)(h:DnH)(LN:Nat)(nw:Int)(s:DnR)(j:Nat):Xq l h LN nw s (j+1)=Z3s l h LN nw (Xq l h LN nw s j) j:=rfl
theorem Xg (m:Nat):Zf m<=10:=Ap (Z48 m) (by decide)
theorem Z5m (l:List Int)(h:DnH)(LN:Nat)(nw:Int)(s:DnR):∀ j,(Xq l h LN nw s j).nx.length=s.nx.length+j/\(Xq l h LN nw s j).mt.length=s.mt.length+j/\(Xq l h LN nw s j).se.length=s.se.length+j/\(Xq l h LN nw s j).st.length=s.st.length+j/\(Xq l h LN nw s j).k<=s.k+40*j
 | 0=>⟨rfl,rfl,rfl,rfl,Ao _⟩
 | j+1=>by
  have f:=Z5m l h LN nw s j;rw [Z54];unfold Z3s;generalize Xq l h LN nw s j=r at *;split
  ·simp only [Bc,List.length_singleton]
   omega
  ·simp only [Bc,List.length_singleton]
   have b:=Xg (LN+1-Z4 l r.k (min LN 6+1));have e:=Xg (min nw.toNat (h.el+2)+1);omega
def ndL (n:Nd)(r:DnR):Nd:={ n with nx:=r.nx,mt:=r.mt,se:=r.se,st:=r.st }
variable {j:Nat}
theorem dnLY (e:c.Ok)(ae:m<=890000000)(g:DB d m)(hj:j<c.SZ)(hi:j+1≠c.ID){e16 e17 e18 e19:Af}(hF:c.Fr a)(u:Tv a 15=Aa O ((j:Int)+1))(hS:c.N w d X)(hK:∀ a' w',c.Fr a'->Tv a' 15=Aa O ((j:Int)+1)->Tv a' 16=Aa O ((d.n.log.length+1-Z4 c.l d.k (min d.n.log.length 6+1):Nat):Int)->Tv a' 17=Aa O (if Z4 c.l (d.k+1+Zf (d.n.log.length+1-Z4 c.l d.k (min d.n.log.length 6+1))) 2=0 then ((d.n.log.length+1-Z4 c.l d.k (min d.n.log.length 6+1):Nat):Int)-1 else ((Z4 c.l (d.k+1) (d.n.log.length+1-Z4 c.l d.k (min d.n.log.length 6+1)):Nat):Int))->Tv a' 18=Aa O (d.n.nw-((Z4 c.l (d.k+1+Zf (d.n.log.length+1-Z4 c.l d.k (min d.n.log.length 6+1))+1) (min d.n.nw.toNat (c.EL+2)+1):Nat):Int))->Tv a' 19=Aa O (d.n.nw-((Z4 c.l (d.k+1+Zf (d.n.log.length+1-Z4 c.l d.k (min d.n.log.length 6+1))+1+Zf (min d.n.nw.toNat (c.EL+2)+1)) (min d.n.nw.toNat (c.EL+2)+1):Nat):Int))->c.N w' ⟨d.n,d.k+1+Zf (d.n.log.length+1-Z4 c.l d.k (min d.n.log.length 6+1))+1+Zf (min d.n.nw.toNat (c.EL+2)+1)+Zf (min d.n.nw.toNat (c.EL+2)+1)⟩ X->K a' w'):(Za (Z1 1 (Z2 1 (Zb (Z2 1 (Zp (Zb (Z1 4 (Za (Z1 1 (Z2 18 (Z3 f51)))))))))))).wp Ad (Exit.then K Q) a w:=by
 have ag:=g.lg;have ah:=e.el;have ai:=Z6 c.l d.k (min d.n.log.length 6+1);refine sqf (λx=>.seq (Z2 1 x) (.seq (Z2 2 x) (.seq (Z2 3 x) (.seq (Z2 4 x) (Z1 5 x))))) ?_;intro K1 ab;refine dnL57 e (by omega) g u hF hS λa1 w1 f1 g15 g16 s1=>ab _ _ ?_
 obtain ⟨NX,s⟩:=exq (d.n.log.length+1-Z4 c.l d.k (min d.n.log.length 6+1));rw [<-s] at hK g16;have aj:=Xg NX;have ad:=Xg (min d.n.nw.toNat (c.EL+2)+1);refine A0 ?_;intro K2 x;refine dnL58 (d:=⟨d.n,d.k+1⟩) (NX:=NX) e (m:=m+1) (by omega) (g.step 1 (Ao _)) (by omega) (by omega) g15 g16 f1 s1 λa2 w2 f2 k15 k16 k17 s2=>x _ _ ?_
 refine A0 ?_;intro K3 v;have aa:DB ⟨d.n,d.k+1+Zf NX⟩ (m+20):=g.step 20 (by show d.k+1+Zf NX<=_;omega);have i:DB ⟨d.n,d.k+1+Zf NX+1⟩ (m+20):=g.step 20 (by show d.k+1+Zf NX+1<=_;omega);refine sqc ?_;intro K4 y;refine dnL59 (d:=⟨d.n,d.k+1+Zf NX⟩) e (m:=m+20) (by omega) aa k15 k16 k17 f2 s2 λa3 w3 f3 l15 l16 l17 l250 s3=>y _ _ ?_
 have b:∀ o r,c.Fr o->Tv o 15=Aa O ((j:Int)+1)->Tv o 16=Aa O ((NX:Nat):Int)->Tv o 17=Aa O (if Z4 c.l (d.k+1+Zf NX) 2=0 then ((NX:Nat):Int)-1 else ((Z4 c.l (d.k+1) NX:Nat):Int))->c.N r ⟨d.n,d.k+1+Zf NX+1⟩ X->K3 o r:=by
  intro o r f4 q f p s4;refine v _ _ ?_;refine A0 ?_;intro K5 t;refine dnL61 (d:=⟨d.n,d.k+1+Zf NX+1⟩) e (m:=m+20) (by omega) i q f p f4 s4 λa5 w5 f5 n15 n16 n17 n20 s5=>t _ _ ?_
  refine A0 ?_;intro K6 z;refine dnL62 (d:=⟨d.n,d.k+1+Zf NX+1⟩) (bk:=min d.n.nw.toNat (c.EL+2)) e (m:=m+20) (by omega) i (by omega) n15 n16 n17 n20 f5 s5 λa6 w6 f6 o15 o16 o17 o20 o18 s6=>z _ _ ?_
  refine dnL63 (d:=⟨d.n,d.k+1+Zf NX+1+Zf (min d.n.nw.toNat (c.EL+2)+1)⟩) (bk:=min d.n.nw.toNat (c.EL+2)) e (m:=m+40) (by omega) (g.step 40 (by show d.k+1+Zf NX+1+Zf (min d.n.nw.toNat (c.EL+2)+1)<=_;omega)) (by omega) o15 o16 o17 o18 o20 f6 s6 λa7 w7 f7 p15 p16 p17 p18 p19 s7=>?_
  exact hK _ _ f7 p15 p16 p17 p18 p19 s7
 refine B7 l250 ?_;by_cases h:Z4 c.l (d.k+1+Zf NX) 2=0
 ·simp only [h,decide_true,if_true] at b ⊢
  refine dnL60 (d:=⟨d.n,d.k+1+Zf NX+1⟩) (NX:=NX) e (m:=m+20) (by omega) i (by omega) (by omega) l15 l16 f3 s3 λo r f4 q f p s4=>?_
  exact b _ _ f4 q f p s4
 ·simp only [h,decide_false,if_false,Bool.false_eq_true] at b ⊢
  exact Bz (b _ _ f3 l15 l16 l17 s3)
theorem dnLX {r:DnR}(p:c.Ok)(ai:m<=890000000)(t:DB d m)(hj:j<c.SZ)(h1:r.nx.length<=100)(h2:r.mt.length<=100)(h3:r.se.length<=100)(h4:r.st.length<=100)(af:r.k<=890000000)(hF:c.Fr a)(ab:Tv a 15=Aa O ((j:Int)+1))(hS:c.N w ⟨ndL d.n r,r.k⟩ X)(hK:∀ g w' x',c.Fr g->Tv g 15=Aa O ((j:Int)+1+1)->c.N w' ⟨ndL d.n (Z3s c.l c.h d.n.log.length d.n.nw r j),(Z3s c.l c.h d.n.log.length d.n.nw r j).k⟩ x'->K g w'):(Zp (Zb (Z1 4 (Za (Z1 1 (Z2 18 (Z3 f51))))))).wp Ad (Exit.then K Q) a w:=by
 have f:∀ b,b<=895000000->∀ r':DnR,DB ⟨ndL d.n r',b⟩ 895000000:=λb hk r'=>⟨hk,t.nw,t.lg,t.tm⟩
 refine sqf (λx=>.seq (.block 5 (Zb (Z2 1 x))) (Z1 2 x)) ?_;intro K1 ag;refine dnL53 (d:=⟨ndL d.n r,r.k⟩) p (m:=895000000) (by omega) (f _ (by omega) r) hj ab hF hS λa1 w1 f1 g15 s1=>ag _ _ ?_
 refine A0 ?_;intro K2 ad;refine Cd ?_
 have s:∀ o w4 b e16 e17 e18 e19,b<=895000000->c.Fr o->Tv o 15=Aa O ((j:Int)+1)->Tv o 16=Aa O e16->Tv o 17=Aa O e17->Tv o 18=Aa O e18->Tv o 19=Aa O e19->c.N w4 ⟨ndL d.n r,b⟩ X->(∀ g w' x',c.Fr g->Tv g 15=Aa O ((j:Int)+1+1)->c.N w' ⟨ndL d.n ⟨r.nx ++ [e16],r.mt ++ [e17],r.se ++ [e18],r.st ++ [e19],b⟩,b⟩ x'->K g w')->(Code.seq (Z2 2 (Zb (Z2 1 (Zp (Zb (Z1 4 (Za (Z1 1 (Z2 18 (Z3 f51)))))))))) (.seq (Z2 3 (Zb (Z2 1 (Zp (Zb (Z1 4 (Za (Z1 1 (Z2 18 (Z3 f51)))))))))) (.seq (Z2 4 (Zb (Z2 1 (Zp (Zb (Z1 4 (Za (Z1 1 (Z2 18 (Z3 f51)))))))))) (Z1 5 (Zb (Z2 1 (Zp (Zb (Z1 4 (Za (Z1 1 (Z2 18 (Z3 f51))))))))))))).wp Ad (Exit.inBlock 5 (Exit.then K2 (Exit.then K Q))) o w4:=by
  intro o w4 b e16 e17 e18 e19 i f4 aa u y z x s4 hk;refine A0 ?_;intro K4 q;refine dnL64 (d:=⟨ndL d.n r,b⟩) (e:=e16) p (m:=895000000) (by omega) (f _ i r) (by show r.nx.length<=1000;omega) aa y z x u f4 s4 λa5 w5 x5 f5 n15 n17 n18 n19 s5=>q _ _ ?_
  refine A0 ?_;intro K5 v;refine dnL65 (d:=⟨ndL d.n ⟨r.nx ++ [e16],r.mt,r.se,r.st,b⟩,b⟩) (e:=e17) p (m:=895000000) (by omega) (f _ i ⟨r.nx ++ [e16],r.mt,r.se,r.st,b⟩) (by show r.mt.length<=1000;omega) n15 n18 n19 n17 f5 s5 λa6 w6 x6 f6 o15 o18 o19 s6=>v _ _ ?_
  refine A0 ?_;intro K6 ae;refine dnL66 (d:=⟨ndL d.n ⟨r.nx ++ [e16],r.mt ++ [e17],r.se,r.st,b⟩,b⟩) (e:=e18) p (m:=895000000) (by omega) (f _ i ⟨r.nx ++ [e16],r.mt ++ [e17],r.se,r.st,b⟩) (by show r.se.length<=1000;omega) o15 o19 o18 f6 s6 λa7 w7 x7 f7 p15 p19 s7=>ae _ _ ?_
  refine wp_mono (Q:=Exit.then K2 (λ_ _ _=>False)) ?_ ?_
  ·refine dnL67 (d:=⟨ndL d.n ⟨r.nx ++ [e16],r.mt ++ [e17],r.se ++ [e18],r.st,b⟩,b⟩) (e:=e19) p (m:=895000000) (by omega) (f _ i ⟨r.nx ++ [e16],r.mt ++ [e17],r.se ++ [e18],r.st,b⟩) (by show r.st.length<=1000;omega) p15 p19 f7 s7 λa8 w8 x8 f8 q15 s8=>?_
   refine ad _ _ ?_;refine dnL54 (d:=⟨ndL d.n ⟨r.nx ++ [e16],r.mt ++ [e17],r.se ++ [e18],r.st ++ [e19],b⟩,b⟩) p (m:=895000000) (by omega) (f _ i ⟨r.nx ++ [e16],r.mt ++ [e17],r.se ++ [e18],r.st ++ [e19],b⟩) hj q15 f8 s8 λa9 w9 f9 r15 s9=>?_
   exact hk _ _ _ f9 r15 s9
  ·intro e g w' h
   cases e with
   | normal=>exact h
   | exit id=>exact h.elim
   | goto l=>exact h.elim
   | ret=>exact h.elim
   | panic ch=>exact h.elim
   | outgrown=>exact h.elim
 refine sqf (λx=>.seq (Z2 1 x) (.seq (Z2 2 x) (.seq (Z2 3 x) (.seq (Z2 4 x) (Z1 5 x))))) ?_;intro K3 ac;refine dnL55 (d:=⟨ndL d.n r,r.k⟩) p (m:=895000000) (by omega) (f _ (by omega) r) g15 f1 s1 λa2 w2 f2 k15 k16 k17 k18 k19 s2=>ac _ _ ?_
 refine A0 ?_;intro K4 q;refine sqc ?_;intro K5 v;refine dnL56 (d:=⟨ndL d.n r,r.k⟩) p (m:=895000000) (by omega) (f _ (by omega) r) k16 k17 k18 k19 k15 f2 s2 λa3 w3 f3 l16 l17 l18 l19 l15 l232 s3=>v _ _ ?_
 refine B7 l232 ?_;by_cases hi:j+1=c.ID
 ·rw [show (decide (j+1≠c.ID))=false by simp [hi]]
  refine Bz (q _ _ ?_);refine s a3 w3 r.k 0 0 0 0 (by omega) f3 l15 l16 l17 l18 l19 s3 λg w' x' f' e' s'=>hK g w' x' f' e' ?_
  rw [show Z3s c.l c.h d.n.log.length d.n.nw r j=⟨r.nx ++ [0],r.mt ++ [0],r.se ++ [0],r.st ++ [0],r.k⟩ by unfold Z3s;rw [if_pos (show j+1=c.h.id from hi)]];exact s'
 ·rw [show (decide (j+1≠c.ID))=true by simp [hi]]
  have al:=Xg (d.n.log.length+1-Z4 c.l r.k (min d.n.log.length 6+1));have ah:=Xg (min d.n.nw.toNat (c.EL+2)+1);refine dnLY (d:=⟨ndL d.n r,r.k⟩) (j:=j) (e16:=undef) (e17:=undef) (e18:=undef) (e19:=undef) p (m:=890000000) (by omega) ⟨af,t.nw,t.lg,t.tm⟩ hj hi f3 l15 s3 λo w4 f4 aa u y z x s4=>q _ _ ?_
  refine s o w4 _ _ _ _ _ ?_ f4 aa u y z x s4 λg w' x' f' e' s'=>hK g w' x' f' e' ?_
  ·show r.k+1+Zf (d.n.log.length+1-Z4 c.l r.k (min d.n.log.length 6+1))+1+Zf (min d.n.nw.toNat (c.EL+2)+1)+Zf (min d.n.nw.toNat (c.EL+2)+1)<=895000000
   omega
  ·have he:Z3s c.l c.h d.n.log.length d.n.nw r j=⟨r.nx ++ [((d.n.log.length+1-Z4 c.l r.k (min d.n.log.length 6+1):Nat):Int)],r.mt ++ [if Z4 c.l (r.k+1+Zf (d.n.log.length+1-Z4 c.l r.k (min d.n.log.length 6+1))) 2=0 then ((d.n.log.length+1-Z4 c.l r.k (min d.n.log.length 6+1):Nat):Int)-1 else ((Z4 c.l (r.k+1) (d.n.log.length+1-Z4 c.l r.k (min d.n.log.length 6+1)):Nat):Int)],r.se ++ [d.n.nw-((Z4 c.l (r.k+1+Zf (d.n.log.length+1-Z4 c.l r.k (min d.n.log.length 6+1))+1) (min d.n.nw.toNat (c.EL+2)+1):Nat):Int)],r.st ++ [d.n.nw-((Z4 c.l (r.k+1+Zf (d.n.log.length+1-Z4 c.l r.k (min d.n.log.length 6+1))+1+Zf (min d.n.nw.toNat (c.EL+2)+1)) (min d.n.nw.toNat (c.EL+2)+1):Nat):Int)],r.k+1+Zf (d.n.log.length+1-Z4 c.l r.k (min d.n.log.length 6+1))+1+Zf (min d.n.nw.toNat (c.EL+2)+1)+Zf (min d.n.nw.toNat (c.EL+2)+1)⟩:=by
    unfold Z3s;rw [if_neg (show ¬ j+1=c.h.id from hi)];rfl
   rw [he];exact s'
theorem dnL3 {s0:DnR}(p:c.Ok)(y:m<=890000000)(g:DB d m)(h1:s0.nx.length<=50)(h2:s0.mt.length<=50)(h3:s0.se.length<=50)(h4:s0.st.length<=50)(u:s0.k<=889000000)(hF:c.Fr a)(i:Tv a 15=Aa O 1)(hS:c.N w ⟨ndL d.n s0,s0.k⟩ X)(z:∀ e w' o,c.Fr e->c.N w' ⟨ndL d.n (Xq c.l c.h d.n.log.length d.n.nw s0 c.SZ),(Xq c.l c.h d.n.log.length d.n.nw s0 c.SZ).k⟩ o->K e w'):(Z1 4 (Za (Z1 1 (Z2 18 (Z3 f51))))).wp Ad (Exit.then K Q) a w:=by
 have ab:=p.sz;rw [show Z1 4 (Za (Z1 1 (Z2 18 (Z3 f51))))=.block 4 (.loop (Zp (Zb (Z1 4 (Za (Z1 1 (Z2 18 (Z3 f51)))))))) from rfl];refine Cd ?_;refine wp_loop (λa w=>∃(j:Nat) (x:RV),j<=c.SZ/\c.Fr a/\Tv a 15=Aa O ((j:Int)+1)/\c.N w ⟨ndL d.n (Xq c.l c.h d.n.log.length d.n.nw s0 j),(Xq c.l c.h d.n.log.length d.n.nw s0 j).k⟩ x) (λa _=>c.SZ+1-(B0 (Tv a 15)).toNat) ⟨0,X,Bb _,hF,i,hS⟩ ?_;rintro a1 w1 ⟨j,x,hj,t,b,s⟩;have aa:=Z5m c.l c.h d.n.log.length d.n.nw s0 j;rcases B1 j c.SZ with hlt | hge
 ·refine dnLX (d:=d) (r:=Xq c.l c.h d.n.log.length d.n.nw s0 j) p (by omega) g hlt (by omega) (by omega) (by omega) (by omega) (by omega) t b s ?_
  intro e w' o q f v;refine ⟨⟨j+1,o,by omega,q,by rw [f];rfl,v⟩,?_⟩;rw [f,b];simp only [B0];omega
 ·have he:j=c.SZ:=by omega
  subst he;refine dnL0 (d:=⟨ndL d.n (Xq c.l c.h d.n.log.length d.n.nw s0 c.SZ),(Xq c.l c.h d.n.log.length d.n.nw s0 c.SZ).k⟩) p (m:=895000000) (by omega) ⟨by show (Xq c.l c.h d.n.log.length d.n.nw s0 c.SZ).k<=_;omega,g.nw,g.lg,g.tm⟩ t b ?_;intro e q;exact z e w1 x q s
theorem dnR52 (b:c.Ok)(r:m<=899000000)(e:DB d m)(g:c.Fr a)(f:c.N w d X)(i:∀ a' w',c.Fr a'->c.N w' d X/\Tv a' 15=Aa O 1->K a' w'):(Z2 3 (Za (Z1 1 (Z2 18 (Z3 f51))))).wp Ad (Exit.then K Q) a w:=by
 obtain ⟨t,rfl⟩:=g.opened;clear g;have o:=Z0 f;clear f
 conv=>arg 2;whnf
 go_wp2_with fail
 exact i _ _ {} ⟨o,rfl⟩
theorem dnI18 (e:c.Ok)(aa:m<=880000000)(f:DB d m)(h1:d.n.nx.length<=50)(q:d.n.mt.length<=50)(h3:d.n.se.length<=50)(h4:d.n.st.length<=50)(hF:c.Fr a)(hS:c.N w d X)(i:∀ a' w' x',c.Fr a'->c.N w' (Z34 c.l c.h d) x'->K a' w'):(Z2 18 (Z3 f51)).wp Ad (Exit.then K Q) a w:=by
 have ab:=f.k;refine sqc ?_;intro K2 u;refine dnR43 e (by omega) f hF hS λa1 w1 f1 g1=>u _ _ ?_
 refine B7 g1.2 ?_;unfold Z34 at i;by_cases h:d.n.ro=3
 ·rw [if_pos h] at i
  rw [if_pos (show decide (d.n.ro=3)=true by simp [h])];refine sqf (λx=>.seq (Z2 1 x) (.seq (Z2 2 x) (.seq (Z2 3 x) (Z1 4 x)))) ?_;intro K3 t;refine dnR44 e (by omega) f f1 g1.1 λa2 w2 f2 g2=>t _ _ ?_
  have hp:=Z6 c.l d.k 4;have p:DB ⟨d.n,d.k+1⟩ (m+1):=f.step 1 (Ao _);refine A0 ?_;intro K4 v;refine sqf (Z1 1) ?_;intro K5 s;refine dnR45 (d:=⟨d.n,d.k+1⟩) e (m:=m+1) (by omega) p g2.2 f2 g2.1 λa3 w3 f3 g3=>s _ _ ?_
  refine dnO3 (d:=⟨d.n,d.k+1⟩) (o:=Z4 c.l d.k 4) e (m:=m+1) (by omega) p (by omega) f3 g3.2.2 g3.2.1 g3.1 λa4 w4 f4 s4=>v _ _ ?_
  have b:=Z1j d.n.tm d.n.log (Z4 c.l d.k 4);have z:DB ⟨{ d.n with log:=X6 d.n.tm d.n.log (Z4 c.l d.k 4) },d.k+1⟩ (m+1):=f.step 1 (Ao _) rfl b;refine A0 ?_;intro K6 x;refine dnI182 (d:=⟨{ d.n with log:=X6 d.n.tm d.n.log (Z4 c.l d.k 4) },d.k+1⟩) e (m:=m+1) (by omega) z f4 s4 λa5 w5 f5 s5=>x _ _ ?_
  refine A0 ?_;intro K7 r
  have y:c.N w5 ⟨{ d.n with log:=X6 d.n.tm d.n.log (Z4 c.l d.k 4),cm:=if Z4 c.l (d.k+1) 2=0 then max 0 (((X6 d.n.tm d.n.log (Z4 c.l d.k 4)).length:Int)-2) else d.n.cm },d.k+1+1⟩ X:=by
   by_cases q:Z4 c.l (d.k+1) 2=0
   ·simp only [q,if_true] at s5 ⊢;exact s5
   ·simp only [q,if_false] at s5 ⊢;exact s5
  have g:DB ⟨{ d.n with log:=X6 d.n.tm d.n.log (Z4 c.l d.k 4),cm:=if Z4 c.l (d.k+1) 2=0 then max 0 (((X6 d.n.tm d.n.log (Z4 c.l d.k 4)).length:Int)-2) else d.n.cm },d.k+1+1⟩ (m+2):=f.step 2 (Ao _) rfl b;refine dnR52 (d:=⟨{ d.n with log:=X6 d.n.tm d.n.log (Z4 c.l d.k 4),cm:=if Z4 c.l (d.k+1) 2=0 then max 0 (((X6 d.n.tm d.n.log (Z4 c.l d.k 4)).length:Int)-2) else d.n.cm },d.k+1+1⟩) e (m:=m+2) (by omega) g f5 y λa6 w6 f6 g6=>r _ _ ?_
  exact dnL3 (d:=⟨{ d.n with log:=X6 d.n.tm d.n.log (Z4 c.l d.k 4),cm:=if Z4 c.l (d.k+1) 2=0 then max 0 (((X6 d.n.tm d.n.log (Z4 c.l d.k 4)).length:Int)-2) else d.n.cm },d.k+1+1⟩) (s0:=⟨d.n.nx,d.n.mt,d.n.se,d.n.st,d.k+1+1⟩) e (m:=m+2) (by omega) g h1 q h3 h4 (by show d.k+1+1<=_;omega) f6 g6.2 g6.1 i
 ·simp only [h,decide_false,if_false,Bool.false_eq_true] at i ⊢
  exact Bz (i _ _ _ f1 g1.1)
end
section
variable {Q:Ca->Bn->Ag->Prop} {K:Bn->Ag->Prop} {c:DC} {d:DnS} {X:RV} {a:Bn} {w:Ag}
theorem Y1:(Tryz.prog.info? 36).map (·.size)=Ac 18:=by kernel_rfl
structure NdO (w:Ag) (B:Nat) (n:Nd) (x:RV):Prop where
 log:Zh w B x.vl n.log
 gr:Zc inC 1 3 w B x.vg n.gr
 nx:Zc inC 1 3 w B x.vn n.nx
 mt:Zc inC 1 3 w B x.vm n.mt
 se:Zc inC 1 3 w B x.vs n.se
 st:Zc inC 1 3 w B x.vt n.st
 ap:[x.vg,x.vn,x.vm,x.vs,x.vt].Pairwise Yd
variable {w:Ag}{B:Nat}{n:Nd}{x:RV}
theorem NdO.keep {w':Ag}(h:NdO w B n x)(f:∀ q,B<=q->q<w.heap.size->w'.heap[q]? = w.heap[q]?):NdO w' B n x:=by
 have b:∀ {v:Af} {l:List Int},Zc inC 1 3 w B v l->Zc inC 1 3 w' B v l:=λho=>ho.block λq e=>f q (ho.lts q e).1 (ho.lts q e).2
 exact ⟨h.log.block λq e=>f q (Aq h.log.2 q e).1 (Aq h.log.2 q e).2,b h.gr,b h.nx,b h.mt,b h.se,b h.st,h.ap⟩
theorem NdO.le {e:Nat}(h:NdO w B n x)(b:e<=B):NdO w e n x:=⟨h.log.le b,h.gr.le b,h.nx.le b,h.mt.le b,h.se.le b,h.st.le b,h.ap⟩
theorem NdO.one (h:NdO w B n x):(ndC n x).all (·.oneCell')=true/\NoU8 (ndC n x):=by
 obtain ⟨o,g,b⟩:=h.log.shape;obtain ⟨e,p,e2⟩:=h.gr.shape;obtain ⟨i,j,e3⟩:=h.nx.shape;obtain ⟨r,f,e4⟩:=h.mt.shape;obtain ⟨l,q,e5⟩:=h.se.shape;obtain ⟨k,s,e6⟩:=h.st.shape;unfold ndC;rw [b,e2,e3,e4,e5,e6];exact ⟨by simp [Value.oneCell'],Zr⟩
structure RtN (c:DC) (w:Ag) (d:DnS) (x:RV):Prop where
 dr:Dr c.w0 w c.g c.v c.l d.k [(c.b4,ndC d.n x,36),(c.b5,c.S,104),(c.b9,ndC d.n x,36)]
 own:NdO w c.w0.heap.size d.n x
theorem DC.N.ndo (h:c.N w d X):NdO w c.w0.heap.size d.n X:=⟨NS.log h,NS.gr h,NS.nx h,NS.mt h,NS.se h,NS.st h,NS.ap h⟩
theorem DC.N.rt (h:c.N w d X):RtN c (w.setRow c.b4 (ndC d.n X)) d X:=by
 have g:=(NS.dr h).row 0 rfl (ndC d.n X) h.ndo.one.2;have b:∀ q,q≠c.b4->(w.setRow c.b4 (ndC d.n X)).heap[q]? = w.heap[q]?:=λq hq=>setRow_other _ _ _ _ hq
 have f:∀ {v:Af} {l:List Int},Zc inC 1 3 w c.w0.heap.size v l->Zc inC 1 3 (w.setRow c.b4 (ndC d.n X)) c.w0.heap.size v l:=λho=>ho.block λq e=>b q (Zm ho h.res (by decide) q e)
 exact ⟨g,h.ndo.log.block λq e=>b q (Y5 h.ndo.log h.res (by decide) q e),f h.ndo.gr,f h.ndo.nx,f h.ndo.mt,f h.ndo.se,f h.ndo.st,h.ndo.ap⟩
variable {m:Nat}
theorem dnR68 (j:c.Ok)(s:m<=899000000)(h:DB d m)(p:c.Fr a)(q:c.N w d X)(hP:∀ a' w',c.Fr a'->RtN c w' d X->K a' w'):(Z2 19 (Z3 f51)).wp Ad (Exit.then K Q) a w:=by
 obtain ⟨t,rfl⟩:=p.opened;clear p;have f:=Z0 q;clear q;have o:=Z0 f.ndo.one.1;obtain ⟨C,e⟩:=exq (ndC d.n X);have HB:Hid (Blk w c.b9 C 36):=e▸f.blk
 have r:Hid (RtN c (w.setRow c.b4 C) d X):=e▸f.rt
 have b:Hid (18=C.size):=by unfold Hid;rw [e];rfl
 rw [<-e] at o;clear e;have g:=Z0 f.res;have l:True:=trivial;have i:True:=trivial
 conv=>arg 2;whnf
 go_wp2_with (first
  |(refine Zd 36 _ rfl ?_;clear l;refine Z7 rfl 36 _ rfl _ rfl HB underlying36 rfl Y1 b ?_)
  |(refine Zn 36 _ _ rfl ?_;clear i;refine Zg rfl 36 _ _ rfl _ rfl rfl g Y1 b b o ?_))
 exact hP _ _ {} r
theorem dnRo_n (l:List Int)(h:DnH)(T:Int)(d:DnS):(Z1x l h T d).n.nw=d.n.nw/\(Z1x l h T d).n.log=d.n.log/\(Z1x l h T d).n.tm=d.n.tm/\(Z1x l h T d).n.gr=d.n.gr/\(Z1x l h T d).n.nx=d.n.nx/\(Z1x l h T d).n.mt=d.n.mt/\(Z1x l h T d).n.se=d.n.se/\(Z1x l h T d).n.st=d.n.st/\(Z1x l h T d).k<=d.k+2:=by
 unfold Z1x;dsimp only;split
 ·exact ⟨rfl,rfl,rfl,rfl,rfl,rfl,rfl,rfl,Ao _⟩
 ·split
  ·exact ⟨rfl,rfl,rfl,rfl,rfl,rfl,rfl,rfl,by dsimp only;omega⟩
  ·split
   ·exact ⟨rfl,rfl,rfl,rfl,rfl,rfl,rfl,rfl,by dsimp only;omega⟩
   ·split
    ·exact ⟨rfl,rfl,rfl,rfl,rfl,rfl,rfl,rfl,by dsimp only;omega⟩
    ·exact ⟨rfl,rfl,rfl,rfl,rfl,rfl,rfl,rfl,by dsimp only;omega⟩
theorem dnDl_n (l:List Int)(el:Nat)(d:DnS):(Z11 l el d).n.nw=d.n.nw/\(Z11 l el d).n.log=d.n.log/\(Z11 l el d).n.tm=d.n.tm/\(Z11 l el d).n.gr=d.n.gr/\(Z11 l el d).n.nx=d.n.nx/\(Z11 l el d).n.mt=d.n.mt/\(Z11 l el d).n.se=d.n.se/\(Z11 l el d).n.st=d.n.st/\(Z11 l el d).k<=d.k+12:=by
 have:=Xg (2*el+1);unfold Z11;dsimp only;split
 ·exact ⟨rfl,rfl,rfl,rfl,rfl,rfl,rfl,rfl,by dsimp only;omega⟩
 ·exact ⟨rfl,rfl,rfl,rfl,rfl,rfl,rfl,rfl,by dsimp only;omega⟩
theorem dnGr_n (l:List Int)(h:DnH)(d:DnS):(Z0d l h d).n.nw=d.n.nw/\(Z0d l h d).n.log=d.n.log/\(Z0d l h d).n.tm=d.n.tm/\(Z0d l h d).n.nx=d.n.nx/\(Z0d l h d).n.mt=d.n.mt/\(Z0d l h d).n.se=d.n.se/\(Z0d l h d).n.st=d.n.st/\(Z0d l h d).k<=d.k+1+h.sz:=by
 unfold Z0d;split
 ·have:=dnGrK_le l h.id ⟨d.n.gr,Z4 l d.k (h.sz / 2),d.k+1⟩ h.sz
  exact ⟨rfl,rfl,rfl,rfl,rfl,rfl,rfl,by dsimp only;exact this.2.1⟩
 ·exact ⟨rfl,rfl,rfl,rfl,rfl,rfl,rfl,by omega⟩
theorem dnTail (g:c.Ok)(al:m<=860000000)(t:DB d m)(q:d.n.gr = []/\d.n.nx = []/\d.n.mt = []/\d.n.se = []/\d.n.st = [])(hF:c.Fr a)(hS:c.N w d X)(s:∀ a' w' x',c.Fr a'->RtN c w' (Z34 c.l c.h (Z0d c.l c.h (Z1x c.l c.h c.T (Z2v c.l (Z1v c.l c.EL (Z11 c.l c.EL d)))))) x'->Q .ret a' w'):(Z1 11 (Z3 f51)).wp Ad Q a w:=by
 have ac:=g.sz;refine sqg (λx=>.seq (Z2 12 x) (.seq (Z2 13 x) (.seq (Z2 14 x) (.seq (Z2 15 x) (.seq (Z2 16 x) (.seq (Z2 17 x) (.seq (Z2 18 x) (.seq (Z2 19 x) .ret)))))))) ?_;intro K1 ae;refine dnR14 g (by omega) t hF hS λa1 w1 f1 s1=>ae _ _ ?_
 have ar:=Xg (2*c.EL+1);refine A0 ?_;intro K2 ah;refine dnI12 (d:=⟨{ d.n with dl:=d.n.nw+(Z4 c.l d.k (2*c.EL+1):Nat) },d.k+Zf (2*c.EL+1)⟩) g (m:=m+20) (by omega) (t.step 20 (by dsimp only;omega)) f1 s1 λa2 w2 f2 s2=>ah _ _ ?_
 have j:c.N w2 (Z11 c.l c.EL d) X:=by
  unfold Z11;dsimp only at s2 ⊢;split
  ·rename_i h;rw [if_pos h] at s2;exact s2
  ·rename_i h;rw [if_neg h] at s2;exact s2
 obtain ⟨u1,u2,u3,u4,u5,u6,u7,u8,u9⟩:=dnDl_n c.l c.EL d;clear s2 s1;obtain ⟨e,aa⟩:=exq (Z11 c.l c.EL d);rw [<-aa] at j s u1 u2 u3 u4 u5 u6 u7 u8 u9;have r:=t.step 20 (by omega) u1 (by rw [u2]) u3;refine A0 ?_;intro K3 ad;refine dnR17 g (m:=m+20) (by omega) r f2 j λa3 w3 f3 s3=>ad _ _ ?_
 have ao:=Xg (min e.n.nw.toNat (2*c.EL)+1);have p:DB (Z1v c.l c.EL e) (m+20+20):=r.step 20 (by unfold Z1v;dsimp only;omega);refine A0 ?_;intro K4 ai;refine dnR18 g (m:=m+20+20) (by omega) p f3 s3 λa4 w4 f4 s4=>ai _ _ ?_
 have aq:=Xg ((Z1v c.l c.EL e).n.log.length+1);have i:DB (Z2v c.l (Z1v c.l c.EL e)) (m+20+20+20):=p.step 20 (by unfold Z2v;dsimp only;omega);have y1:(Z2v c.l (Z1v c.l c.EL e)).n.gr=e.n.gr:=rfl;have y2:(Z2v c.l (Z1v c.l c.EL e)).n.nx=e.n.nx:=rfl;have y3:(Z2v c.l (Z1v c.l c.EL e)).n.mt=e.n.mt:=rfl;have y4:(Z2v c.l (Z1v c.l c.EL e)).n.se=e.n.se:=rfl;have y5:(Z2v c.l (Z1v c.l c.EL e)).n.st=e.n.st:=rfl;obtain ⟨d4,v⟩:=exq (Z2v c.l (Z1v c.l c.EL e));rw [<-v] at s4 s i y1 y2 y3 y4 y5;refine A0 ?_;intro K5 af;refine dnR19 g (m:=m+20+20+20) (by omega) i f4 s4 λa5 w5 f5 s5=>af _ _ ?_
 refine A0 ?_;intro K6 y;refine dnI16 (d:=d4) g (m:=m+20+20+20) (by omega) i s5.2 f5 s5.1 λa6 w6 f6 s6=>y _ _ ?_
 obtain ⟨r1,r2,r3,r4,r5,r6,r7,r8,r9⟩:=dnRo_n c.l c.h c.T d4;obtain ⟨f,aj⟩:=exq (Z1x c.l c.h c.T d4);rw [<-aj] at s6 s r1 r2 r3 r4 r5 r6 r7 r8 r9;have o:=i.step 2 (by omega) r1 (by rw [r2]) r3;refine A0 ?_;intro K7 u;refine dnI17 (d:=f) g (m:=m+20+20+20+2) (by omega) o (by rw [r4,y1,u4,q.1];exact Bb _) f6 s6 λa7 w7 x7 f7 s7=>u _ _ ?_
 obtain ⟨g1,g2,g3,g4,g5,g6,g7,g8⟩:=dnGr_n c.l c.h f;have ak:c.h.sz<=7:=ac.2;have b:=o.step 20 (by omega) g1 (by rw [g2]) g3;refine A0 ?_;intro K8 z;refine dnI18 (d:=Z0d c.l c.h f) g (m:=m+20+20+20+2+20) (by omega) b (by rw [g4,r5,y2,u5,q.2.1];exact Bb _) (by rw [g5,r6,y3,u6,q.2.2.1];exact Bb _) (by rw [g6,r7,y4,u7,q.2.2.2.1];exact Bb _) (by rw [g7,r8,y5,u8,q.2.2.2.2];exact Bb _) f7 s7 λa8 w8 x8 f8 s8=>z _ _ ?_
 refine A0 ?_;intro K9 ab
 have ag:DB (Z34 c.l c.h (Z0d c.l c.h f)) 899000000:=by
  have am:=b.k;unfold Z34;split
  ·have hl:=Z5m c.l c.h (X6 (Z0d c.l c.h f).n.tm (Z0d c.l c.h f).n.log (Z4 c.l (Z0d c.l c.h f).k 4)).length (Z0d c.l c.h f).n.nw ⟨(Z0d c.l c.h f).n.nx,(Z0d c.l c.h f).n.mt,(Z0d c.l c.h f).n.se,(Z0d c.l c.h f).n.st,(Z0d c.l c.h f).k+1+1⟩ c.h.sz
   refine ⟨?_,b.nw,?_,b.tm⟩
   ·refine Ap hl.2.2.2.2 ?_
    dsimp only;omega
   ·dsimp only;rw [Z1j];exact b.lg
  ·exact ⟨by omega,b.nw,b.lg,b.tm⟩
 refine dnR68 (d:=Z34 c.l c.h (Z0d c.l c.h f)) g (m:=899000000) (by omega) ag f8 s8 λa9 w9 f9 s9=>ab _ _ ?_
 exact wp_ret (s _ _ _ f9 s9)
end
structure NdS (w:Ag) (B b:Nat) (n:Nd) (x:RV):Prop where
 blk:Blk w b (ndC n x) 36
 own:NdO w B n x
section
variable {w w2 w3 w':Ag} {B B' b:Nat} {n n':Nd} {x x':RV} {u:Af} {q:List Int}
theorem NdS.le (h:NdS w B b n x)(a:B'<=B):NdS w B' b n x:=⟨h.blk,h.own.le a⟩
theorem NdS.keep (h:NdS w B b n x)(a:∀ q,B<=q∨q=b->q<w.heap.size->w'.heap[q]? = w.heap[q]?):NdS w' B b n x:=⟨h.blk.keep (a b (.inr rfl) h.blk.lt),h.own.keep λq h1 h2=>a q (.inl h1) h2⟩
theorem NdS.below (h:NdS w B b n x)(a:Ai w.heap.size w w'):NdS w' B b n x:=h.keep λq _ h2=>a.block q h2
variable {C:Array Af}
theorem NdO.neB (h:NdO w B n x){d:Nat}{t:Ax}(c:Blk w d C t)(i:118≠t)(g:3≠t)(f:∀ q,q≠d->w'.heap[q]? = w.heap[q]?):NdO w' B n x:=by
 have a:∀ {v:Af} {l:List Int},Zc inC 1 3 w B v l->Zc inC 1 3 w' B v l:=λho=>ho.block λq e=>f q (Zm ho c g q e)
 exact ⟨h.log.block λq e=>f q (Y5 h.log c i q e),a h.gr,a h.nx,a h.mt,a h.se,a h.st,h.ap⟩
theorem NdS.set (h:NdS w B b n x)(j:Nat)(f:j<12)(y:Int:=by rfl)(d:(ndC n x).setIfInBounds j (Aa O y)=ndC n' x:=by rfl)
  (e:n'.log=n.log:=by rfl) (e2:n'.gr=n.gr:=by rfl) (e3:n'.nx=n.nx:=by rfl) (e4:n'.mt=n.mt:=by rfl) (e5:n'.se=n.se:=by rfl) (e6:n'.st=n.st:=by rfl):NdS (w.setCell ⟨b,j,Ab⟩ (Aa O y)) B b n' x:=by
 have a:=h.own.neB (w':=w.setCell ⟨b,j,Ab⟩ (Aa O y)) h.blk (by decide) (by decide) λq hq=>Ak _ _ _ _ hq
 have c:=h.blk.set j (Aa O y);rw [d] at c;exact ⟨c,e▸a.log,e2▸a.gr,e3▸a.nx,e4▸a.mt,e5▸a.se,e6▸a.st,a.ap⟩
theorem NdS.row (a:Blk w b C 36)(c:C.size=18)(h:NdO w B n x):NdS (w.setRow b (ndC n x)) B b n x:=
 ⟨a.row (ndC n x),h.neB a (by decide) (by decide) λq hq=>setRow_other _ _ _ _ hq⟩
theorem NdS.grNew (h:NdS w B b n x)(m:Ai w.heap.size w w2)(s:Zc inC 1 3 w3 B u q)(k:Ye w2 x.vg w3 u) :
  Blk w3 b (ndC n x) 36/\NdS (w3.setCell ⟨b,13,Ab⟩ u) B b { n with gr:=q } { x with vg:=u }:=by
 have o:=m.size;have d:∀ p,x.vg.ownBlock=Ac p->B<=p/\p<w.heap.size/\p≠b:=λp e=>⟨(h.own.gr.lts p e).1,(h.own.gr.lts p e).2,Zm h.own.gr h.blk (by decide) p e⟩
 have i:∀ p,p<w.heap.size->x.vg.ownBlock≠Ac p->w3.heap[p]? = w.heap[p]?:=λp hp hne=>(k.g.block p (by omega) (λe=>hne e.symm)).trans (m.block p hp)
 have c:∀ p,p≠b->(w3.setCell ⟨b,13,Ab⟩ u).heap[p]? = w3.heap[p]?:=λp hp=>Ak _ _ _ _ hp
 have a:∀ {α:Type} {cs:α->List Af} {m':Nat} {T:Ax} {y:Af} {q:List α},T≠36->Zc cs m' T w B y q->Yd x.vg y->Zc cs m' T (w3.setCell ⟨b,13,Ab⟩ u) B y q:=λh1 ho' ha=>ho'.block λp e=>(c p (Zm ho' h.blk h1 p e)).trans (i p (ho'.lts p e).2 λe'=>ha p e' e)
 have l:∀ p,u.ownBlock=Ac p->p≠b:=λp e=>by
  rcases k.at' with e' | ⟨r,e',hp⟩
  ·rw [e] at e';exact (d p e'.symm).2.2
  ·rw [e] at e';cases e';have:=h.blk.lt;omega
 have j:∀ {y:Af} {q':List Int},Zc inC 1 3 w B y q'->Yd x.vg y->Yd u y:=λhu ha p e1 e2=>by
  rcases k.at' with e' | ⟨r,e',hp⟩
  ·rw [e1] at e';exact ha p e'.symm e2
  ·rw [e1] at e';cases e';have:=(hu.lts _ e2).2;omega
 have f:=h.blk.keep (i b h.blk.lt λe=>(d b e).2.2 rfl);refine ⟨f,f.set 13 u,Zc.e (a (by decide) h.own.log.g (Yq h.own.gr h.own.log.g)) h.own.log.1,s.block λp e=>c p (l p e),a (by decide) h.own.nx (Z5 h.own.ap 0 1),a (by decide) h.own.mt (Z5 h.own.ap 0 2),a (by decide) h.own.se (Z5 h.own.ap 0 3),a (by decide) h.own.st (Z5 h.own.ap 0 4),pw5 ((j h.own.nx (Z5 h.own.ap 0 1))) ((j h.own.mt (Z5 h.own.ap 0 2))) ((j h.own.se (Z5 h.own.ap 0 3))) ((j h.own.st (Z5 h.own.ap 0 4))) ((Z5 h.own.ap 1 2)) ((Z5 h.own.ap 1 3)) ((Z5 h.own.ap 1 4)) ((Z5 h.own.ap 2 3)) ((Z5 h.own.ap 2 4)) ((Z5 h.own.ap 3 4))⟩
theorem NdS.nxNew (h:NdS w B b n x)(m:Ai w.heap.size w w2)(s:Zc inC 1 3 w3 B u q)(k:Ye w2 x.vn w3 u) :
  Blk w3 b (ndC n x) 36/\NdS (w3.setCell ⟨b,14,Ab⟩ u) B b { n with nx:=q } { x with vn:=u }:=by
 have o:=m.size;have d:∀ p,x.vn.ownBlock=Ac p->B<=p/\p<w.heap.size/\p≠b:=λp e=>⟨(h.own.nx.lts p e).1,(h.own.nx.lts p e).2,Zm h.own.nx h.blk (by decide) p e⟩
 have i:∀ p,p<w.heap.size->x.vn.ownBlock≠Ac p->w3.heap[p]? = w.heap[p]?:=λp hp hne=>(k.g.block p (by omega) (λe=>hne e.symm)).trans (m.block p hp)
 have c:∀ p,p≠b->(w3.setCell ⟨b,14,Ab⟩ u).heap[p]? = w3.heap[p]?:=λp hp=>Ak _ _ _ _ hp
 have a:∀ {α:Type} {cs:α->List Af} {m':Nat} {T:Ax} {y:Af} {q:List α},T≠36->Zc cs m' T w B y q->Yd x.vn y->Zc cs m' T (w3.setCell ⟨b,14,Ab⟩ u) B y q:=λh1 ho' ha=>ho'.block λp e=>(c p (Zm ho' h.blk h1 p e)).trans (i p (ho'.lts p e).2 λe'=>ha p e' e)
 have l:∀ p,u.ownBlock=Ac p->p≠b:=λp e=>by
  rcases k.at' with e' | ⟨r,e',hp⟩
  ·rw [e] at e';exact (d p e'.symm).2.2
  ·rw [e] at e';cases e';have:=h.blk.lt;omega
 have j:∀ {y:Af} {q':List Int},Zc inC 1 3 w B y q'->Yd x.vn y->Yd u y:=λhu ha p e1 e2=>by
  rcases k.at' with e' | ⟨r,e',hp⟩
  ·rw [e1] at e';exact ha p e'.symm e2
  ·rw [e1] at e';cases e';have:=(hu.lts _ e2).2;omega
 have f:=h.blk.keep (i b h.blk.lt λe=>(d b e).2.2 rfl);refine ⟨f,f.set 14 u,Zc.e (a (by decide) h.own.log.g (Yq h.own.nx h.own.log.g)) h.own.log.1,a (by decide) h.own.gr (Z5 h.own.ap 0 1).symm,s.block λp e=>c p (l p e),a (by decide) h.own.mt (Z5 h.own.ap 1 2),a (by decide) h.own.se (Z5 h.own.ap 1 3),a (by decide) h.own.st (Z5 h.own.ap 1 4),pw5 ((j h.own.gr (Z5 h.own.ap 0 1).symm).symm) ((Z5 h.own.ap 0 2)) ((Z5 h.own.ap 0 3)) ((Z5 h.own.ap 0 4)) ((j h.own.mt (Z5 h.own.ap 1 2))) ((j h.own.se (Z5 h.own.ap 1 3))) ((j h.own.st (Z5 h.own.ap 1 4))) ((Z5 h.own.ap 2 3)) ((Z5 h.own.ap 2 4)) ((Z5 h.own.ap 3 4))⟩
theorem NdS.mtNew (h:NdS w B b n x)(m:Ai w.heap.size w w2)(s:Zc inC 1 3 w3 B u q)(k:Ye w2 x.vm w3 u) :
  Blk w3 b (ndC n x) 36/\NdS (w3.setCell ⟨b,15,Ab⟩ u) B b { n with mt:=q } { x with vm:=u }:=by
 have o:=m.size;have d:∀ p,x.vm.ownBlock=Ac p->B<=p/\p<w.heap.size/\p≠b:=λp e=>⟨(h.own.mt.lts p e).1,(h.own.mt.lts p e).2,Zm h.own.mt h.blk (by decide) p e⟩
 have i:∀ p,p<w.heap.size->x.vm.ownBlock≠Ac p->w3.heap[p]? = w.heap[p]?:=λp hp hne=>(k.g.block p (by omega) (λe=>hne e.symm)).trans (m.block p hp)
 have c:∀ p,p≠b->(w3.setCell ⟨b,15,Ab⟩ u).heap[p]? = w3.heap[p]?:=λp hp=>Ak _ _ _ _ hp
 have a:∀ {α:Type} {cs:α->List Af} {m':Nat} {T:Ax} {y:Af} {q:List α},T≠36->Zc cs m' T w B y q->Yd x.vm y->Zc cs m' T (w3.setCell ⟨b,15,Ab⟩ u) B y q:=λh1 ho' ha=>ho'.block λp e=>(c p (Zm ho' h.blk h1 p e)).trans (i p (ho'.lts p e).2 λe'=>ha p e' e)
 have l:∀ p,u.ownBlock=Ac p->p≠b:=λp e=>by
  rcases k.at' with e' | ⟨r,e',hp⟩
  ·rw [e] at e';exact (d p e'.symm).2.2
  ·rw [e] at e';cases e';have:=h.blk.lt;omega
 have j:∀ {y:Af} {q':List Int},Zc inC 1 3 w B y q'->Yd x.vm y->Yd u y:=λhu ha p e1 e2=>by
  rcases k.at' with e' | ⟨r,e',hp⟩
  ·rw [e1] at e';exact ha p e'.symm e2
  ·rw [e1] at e';cases e';have:=(hu.lts _ e2).2;omega
 have f:=h.blk.keep (i b h.blk.lt λe=>(d b e).2.2 rfl);refine ⟨f,f.set 15 u,Zc.e (a (by decide) h.own.log.g (Yq h.own.mt h.own.log.g)) h.own.log.1,a (by decide) h.own.gr (Z5 h.own.ap 0 2).symm,a (by decide) h.own.nx (Z5 h.own.ap 1 2).symm,s.block λp e=>c p (l p e),a (by decide) h.own.se (Z5 h.own.ap 2 3),a (by decide) h.own.st (Z5 h.own.ap 2 4),pw5 ((Z5 h.own.ap 0 1)) ((j h.own.gr (Z5 h.own.ap 0 2).symm).symm) ((Z5 h.own.ap 0 3)) ((Z5 h.own.ap 0 4)) ((j h.own.nx (Z5 h.own.ap 1 2).symm).symm) ((Z5 h.own.ap 1 3)) ((Z5 h.own.ap 1 4)) ((j h.own.se (Z5 h.own.ap 2 3))) ((j h.own.st (Z5 h.own.ap 2 4))) ((Z5 h.own.ap 3 4))⟩
theorem NdS.seNew (h:NdS w B b n x)(m:Ai w.heap.size w w2)(s:Zc inC 1 3 w3 B u q)(k:Ye w2 x.vs w3 u) :
  Blk w3 b (ndC n x) 36/\NdS (w3.setCell ⟨b,16,Ab⟩ u) B b { n with se:=q } { x with vs:=u }:=by
 have o:=m.size;have d:∀ p,x.vs.ownBlock=Ac p->B<=p/\p<w.heap.size/\p≠b:=λp e=>⟨(h.own.se.lts p e).1,(h.own.se.lts p e).2,Zm h.own.se h.blk (by decide) p e⟩
 have i:∀ p,p<w.heap.size->x.vs.ownBlock≠Ac p->w3.heap[p]? = w.heap[p]?:=λp hp hne=>(k.g.block p (by omega) (λe=>hne e.symm)).trans (m.block p hp)
 have c:∀ p,p≠b->(w3.setCell ⟨b,16,Ab⟩ u).heap[p]? = w3.heap[p]?:=λp hp=>Ak _ _ _ _ hp
 have a:∀ {α:Type} {cs:α->List Af} {m':Nat} {T:Ax} {y:Af} {q:List α},T≠36->Zc cs m' T w B y q->Yd x.vs y->Zc cs m' T (w3.setCell ⟨b,16,Ab⟩ u) B y q:=λh1 ho' ha=>ho'.block λp e=>(c p (Zm ho' h.blk h1 p e)).trans (i p (ho'.lts p e).2 λe'=>ha p e' e)
 have l:∀ p,u.ownBlock=Ac p->p≠b:=λp e=>by
  rcases k.at' with e' | ⟨r,e',hp⟩
  ·rw [e] at e';exact (d p e'.symm).2.2
  ·rw [e] at e';cases e';have:=h.blk.lt;omega
 have j:∀ {y:Af} {q':List Int},Zc inC 1 3 w B y q'->Yd x.vs y->Yd u y:=λhu ha p e1 e2=>by
  rcases k.at' with e' | ⟨r,e',hp⟩
  ·rw [e1] at e';exact ha p e'.symm e2
  ·rw [e1] at e';cases e';have:=(hu.lts _ e2).2;omega
 have f:=h.blk.keep (i b h.blk.lt λe=>(d b e).2.2 rfl);refine ⟨f,f.set 16 u,Zc.e (a (by decide) h.own.log.g (Yq h.own.se h.own.log.g)) h.own.log.1,a (by decide) h.own.gr (Z5 h.own.ap 0 3).symm,a (by decide) h.own.nx (Z5 h.own.ap 1 3).symm,a (by decide) h.own.mt (Z5 h.own.ap 2 3).symm,s.block λp e=>c p (l p e),a (by decide) h.own.st (Z5 h.own.ap 3 4),pw5 ((Z5 h.own.ap 0 1)) ((Z5 h.own.ap 0 2)) ((j h.own.gr (Z5 h.own.ap 0 3).symm).symm) ((Z5 h.own.ap 0 4)) ((Z5 h.own.ap 1 2)) ((j h.own.nx (Z5 h.own.ap 1 3).symm).symm) ((Z5 h.own.ap 1 4)) ((j h.own.mt (Z5 h.own.ap 2 3).symm).symm) ((Z5 h.own.ap 2 4)) ((j h.own.st (Z5 h.own.ap 3 4)))⟩
theorem NdS.stNew (h:NdS w B b n x)(m:Ai w.heap.size w w2)(s:Zc inC 1 3 w3 B u q)(k:Ye w2 x.vt w3 u) :
  Blk w3 b (ndC n x) 36/\NdS (w3.setCell ⟨b,17,Ab⟩ u) B b { n with st:=q } { x with vt:=u }:=by
 have o:=m.size;have d:∀ p,x.vt.ownBlock=Ac p->B<=p/\p<w.heap.size/\p≠b:=λp e=>⟨(h.own.st.lts p e).1,(h.own.st.lts p e).2,Zm h.own.st h.blk (by decide) p e⟩
 have i:∀ p,p<w.heap.size->x.vt.ownBlock≠Ac p->w3.heap[p]? = w.heap[p]?:=λp hp hne=>(k.g.block p (by omega) (λe=>hne e.symm)).trans (m.block p hp)
 have c:∀ p,p≠b->(w3.setCell ⟨b,17,Ab⟩ u).heap[p]? = w3.heap[p]?:=λp hp=>Ak _ _ _ _ hp
 have a:∀ {α:Type} {cs:α->List Af} {m':Nat} {T:Ax} {y:Af} {q:List α},T≠36->Zc cs m' T w B y q->Yd x.vt y->Zc cs m' T (w3.setCell ⟨b,17,Ab⟩ u) B y q:=λh1 ho' ha=>ho'.block λp e=>(c p (Zm ho' h.blk h1 p e)).trans (i p (ho'.lts p e).2 λe'=>ha p e' e)
 have l:∀ p,u.ownBlock=Ac p->p≠b:=λp e=>by
  rcases k.at' with e' | ⟨r,e',hp⟩
  ·rw [e] at e';exact (d p e'.symm).2.2
  ·rw [e] at e';cases e';have:=h.blk.lt;omega
 have j:∀ {y:Af} {q':List Int},Zc inC 1 3 w B y q'->Yd x.vt y->Yd u y:=λhu ha p e1 e2=>by
  rcases k.at' with e' | ⟨r,e',hp⟩
  ·rw [e1] at e';exact ha p e'.symm e2
  ·rw [e1] at e';cases e';have:=(hu.lts _ e2).2;omega
 have f:=h.blk.keep (i b h.blk.lt λe=>(d b e).2.2 rfl);refine ⟨f,f.set 17 u,Zc.e (a (by decide) h.own.log.g (Yq h.own.st h.own.log.g)) h.own.log.1,a (by decide) h.own.gr (Z5 h.own.ap 0 4).symm,a (by decide) h.own.nx (Z5 h.own.ap 1 4).symm,a (by decide) h.own.mt (Z5 h.own.ap 2 4).symm,a (by decide) h.own.se (Z5 h.own.ap 3 4).symm,s.block λp e=>c p (l p e),pw5 ((Z5 h.own.ap 0 1)) ((Z5 h.own.ap 0 2)) ((Z5 h.own.ap 0 3)) ((j h.own.gr (Z5 h.own.ap 0 4).symm).symm) ((Z5 h.own.ap 1 2)) ((Z5 h.own.ap 1 3)) ((j h.own.nx (Z5 h.own.ap 1 4).symm).symm) ((Z5 h.own.ap 2 3)) ((j h.own.mt (Z5 h.own.ap 2 4).symm).symm) ((j h.own.se (Z5 h.own.ap 3 4).symm).symm)⟩
end
structure FmS where
 m:Mg
 k:Nat
def mgOf (d:MsgD):Mg:=⟨d.ki,d.fr,d.td,d.tm,d.li,d.lt,d.cm,d.ok,d.hi,d.es⟩
def Z2r (l:List Int)(k:Nat)(n:Nd):Int:=
 let x:=1+(n.id+(Z4 l k (n.sz.toNat-1):Nat))%n.sz
 if x=n.id then 1+n.id%n.sz else x
def Z6c (l:List Int)(k:Nat)(n:Nd)(ki:Int):Int×Nat:=
 if n.ro=1 then (if Z4 l k 3=0 then ki else 2,k+1)
 else if n.ro=2 then (if Z4 l k 3=0 then ki else 4,k+1)
 else if n.ro=3 then (if Z4 l k 3=0 then ki else 6,k+1)
 else (ki,k)
def dfTerm (l:List Int)(k:Nat)(n:Nd)(ki:Int):Int×Nat:=
 let q:=Z4 l k 7
 let r:Int×Nat:=if q=0 then (n.tm+1+(Z4 l (k+1) 2:Nat),k+1+1) else if q=1 then (n.tm-1,k+1) else if ki=1∨ki=2 then (n.tm+1,k+1) else (n.tm,k+1)
 (min (max r.1 1) 1073741824,r.2)
def Z1i (l:List Int)(k:Nat)(n:Nd)(m:Mg):FmS:=
 let kd:=Z6c l (k+1) n m.ki
 let t:=dfTerm l kd.2 n kd.1
 let ok:=Z4 l t.2 5
 let re:Bool:=kd.1 == 2 || kd.1 == 4 || kd.1 == 6
 ⟨⟨kd.1,Z2r l k n,n.id,t.1,0,0,0,if re=true/\1<ok then 1 else 0,0,if re=true then [] else m.es⟩,t.2+1⟩
def Ys (l:List Int)(k:Nat)(n:Nd):Int:=min (max ((n.log.length:Int)-(Z4 l k 4:Nat)+(Z4 l (k+1) 2:Nat)) 0) 4096
structure FeS where
 es:List Ent
 low:Int
 k:Nat
def dfEnt (l:List Int)(n:Nd)(other:Bool)(tm place:Int)(s:FeS)(i:Nat):FeS:=
 let e0:=(s.es[i]?).getD ⟨0,0,0,0,⟨#[]⟩,⟨#[]⟩,⟨#[]⟩⟩
 let a:=(place+i).toNat
 let r:Ent×Nat:=if other=true then (J4 tm e0,s.k) else if a<n.log.length then (if Z4 l s.k 3=0 then (e0,s.k+1) else ((n.log[a]?).getD e0,s.k+1)) else (e0,s.k)
 let e1:=if r.1.t<s.low then J4 s.low r.1 else r.1
 let e2:=if tm<e1.t then J4 tm e1 else e1
 ⟨s.es.set i e2,e2.t,r.2⟩
def J7 (l:List Int)(n:Nd)(other:Bool)(tm place:Int)(s:FeS):Nat->FeS
 | 0=>s
 | i+1=>dfEnt l n other tm place (J7 l n other tm place s i) i
section
theorem Z3x (t:Nat->Af):lst t 0 343 = [t 0,t 1,t 2,t 3,t 4,t 5,t 6,t 7,t 8,t 9,t 10,t 11,t 12,t 13,t 14,t 15,t 16,t 17,t 18,t 19,t 20,t 21,t 22,t 23,t 24,t 25,t 26,t 27,t 28,t 29,t 30,t 31,t 32,t 33,t 34,t 35,t 36,t 37,t 38,t 39,t 40,t 41,t 42,t 43,t 44,t 45,t 46,t 47,t 48,t 49,t 50,t 51,t 52,t 53,t 54,t 55,t 56,t 57,t 58,t 59,t 60,t 61,t 62,t 63,t 64,t 65,t 66,t 67,t 68,t 69,t 70,t 71,t 72,t 73,t 74,t 75,t 76,t 77,t 78,t 79,t 80,t 81,t 82,t 83,t 84,t 85,t 86,t 87,t 88,t 89,t 90,t 91,t 92,t 93,t 94,t 95,t 96,t 97,t 98,t 99,t 100,t 101,t 102,t 103,t 104,t 105,t 106,t 107,t 108,t 109,t 110,t 111,t 112,t 113,t 114,t 115,t 116,t 117,t 118,t 119,t 120,t 121,t 122,t 123,t 124,t 125,t 126,t 127,t 128,t 129,t 130,t 131,t 132,t 133,t 134,t 135,t 136,t 137,t 138,t 139,t 140,t 141,t 142,t 143,t 144,t 145,t 146,t 147,t 148,t 149,t 150,t 151,t 152,t 153,t 154,t 155,t 156,t 157,t 158,t 159,t 160,t 161,t 162,t 163,t 164,t 165,t 166,t 167,t 168,t 169,t 170,t 171,t 172,t 173,t 174,t 175,t 176,t 177,t 178,t 179,t 180,t 181,t 182,t 183,t 184,t 185,t 186,t 187,t 188,t 189,t 190,t 191,t 192,t 193,t 194,t 195,t 196,t 197,t 198,t 199,t 200,t 201,t 202,t 203,t 204,t 205,t 206,t 207,t 208,t 209,t 210,t 211,t 212,t 213,t 214,t 215,t 216,t 217,t 218,t 219,t 220,t 221,t 222,t 223,t 224,t 225,t 226,t 227,t 228,t 229,t 230,t 231,t 232,t 233,t 234,t 235,t 236,t 237,t 238,t 239,t 240,t 241,t 242,t 243,t 244,t 245,t 246,t 247,t 248,t 249,t 250,t 251,t 252,t 253,t 254,t 255,t 256,t 257,t 258,t 259,t 260,t 261,t 262,t 263,t 264,t 265,t 266,t 267,t 268,t 269,t 270,t 271,t 272,t 273,t 274,t 275,t 276,t 277,t 278,t 279,t 280,t 281,t 282,t 283,t 284,t 285,t 286,t 287,t 288,t 289,t 290,t 291,t 292,t 293,t 294,t 295,t 296,t 297,t 298,t 299,t 300,t 301,t 302,t 303,t 304,t 305,t 306,t 307,t 308,t 309,t 310,t 311,t 312,t 313,t 314,t 315,t 316,t 317,t 318,t 319,t 320,t 321,t 322,t 323,t 324,t 325,t 326,t 327,t 328,t 329,t 330,t 331,t 332,t 333,t 334,t 335,t 336,t 337,t 338,t 339,t 340,t 341,t 342]:=rfl
structure Zo (g b3 b4 b5:Nat) (a:Bn):Prop where
 sz:SzD a 343:=by exact ⟨rfl,rfl⟩
 e0:Tv a 0=Ae (Ac ⟨g,0,Ab⟩):=by exact rfl
 e3:Tv a 3=Ae (Ac ⟨b3,0,Ab⟩):=by exact rfl
 e4:Tv a 4=Ae (Ac ⟨b4,0,Ab⟩):=by exact rfl
 e5:Tv a 5=Ae (Ac ⟨b5,0,Ab⟩):=by exact rfl
variable {g b3 b4 b5:Nat}{a:Bn}
theorem Zo.op (h:Zo g b3 b4 b5 a):∃ t:Nat->Af,a=⟨#[Ae (Ac ⟨g,0,Ab⟩),t 1,t 2,Ae (Ac ⟨b3,0,Ab⟩),Ae (Ac ⟨b4,0,Ab⟩),Ae (Ac ⟨b5,0,Ab⟩),t 6,t 7,t 8,t 9,t 10,t 11,t 12,t 13,t 14,t 15,t 16,t 17,t 18,t 19,t 20,t 21,t 22,t 23,t 24,t 25,t 26,t 27,t 28,t 29,t 30,t 31,t 32,t 33,t 34,t 35,t 36,t 37,t 38,t 39,t 40,t 41,t 42,t 43,t 44,t 45,t 46,t 47,t 48,t 49,t 50,t 51,t 52,t 53,t 54,t 55,t 56,t 57,t 58,t 59,t 60,t 61,t 62,t 63,t 64,t 65,t 66,t 67,t 68,t 69,t 70,t 71,t 72,t 73,t 74,t 75,t 76,t 77,t 78,t 79,t 80,t 81,t 82,t 83,t 84,t 85,t 86,t 87,t 88,t 89,t 90,t 91,t 92,t 93,t 94,t 95,t 96,t 97,t 98,t 99,t 100,t 101,t 102,t 103,t 104,t 105,t 106,t 107,t 108,t 109,t 110,t 111,t 112,t 113,t 114,t 115,t 116,t 117,t 118,t 119,t 120,t 121,t 122,t 123,t 124,t 125,t 126,t 127,t 128,t 129,t 130,t 131,t 132,t 133,t 134,t 135,t 136,t 137,t 138,t 139,t 140,t 141,t 142,t 143,t 144,t 145,t 146,t 147,t 148,t 149,t 150,t 151,t 152,t 153,t 154,t 155,t 156,t 157,t 158,t 159,t 160,t 161,t 162,t 163,t 164,t 165,t 166,t 167,t 168,t 169,t 170,t 171,t 172,t 173,t 174,t 175,t 176,t 177,t 178,t 179,t 180,t 181,t 182,t 183,t 184,t 185,t 186,t 187,t 188,t 189,t 190,t 191,t 192,t 193,t 194,t 195,t 196,t 197,t 198,t 199,t 200,t 201,t 202,t 203,t 204,t 205,t 206,t 207,t 208,t 209,t 210,t 211,t 212,t 213,t 214,t 215,t 216,t 217,t 218,t 219,t 220,t 221,t 222,t 223,t 224,t 225,t 226,t 227,t 228,t 229,t 230,t 231,t 232,t 233,t 234,t 235,t 236,t 237,t 238,t 239,t 240,t 241,t 242,t 243,t 244,t 245,t 246,t 247,t 248,t 249,t 250,t 251,t 252,t 253,t 254,t 255,t 256,t 257,t 258,t 259,t 260,t 261,t 262,t 263,t 264,t 265,t 266,t 267,t 268,t 269,t 270,t 271,t 272,t 273,t 274,t 275,t 276,t 277,t 278,t 279,t 280,t 281,t 282,t 283,t 284,t 285,t 286,t 287,t 288,t 289,t 290,t 291,t 292,t 293,t 294,t 295,t 296,t 297,t 298,t 299,t 300,t 301,t 302,t 303,t 304,t 305,t 306,t 307,t 308,t 309,t 310,t 311,t 312,t 313,t 314,t 315,t 316,t 317,t 318,t 319,t 320,t 321,t 322,t 323,t 324,t 325,t 326,t 327,t 328,t 329,t 330,t 331,t 332,t 333,t 334,t 335,t 336,t 337,t 338,t 339,t 340,t 341,t 342],[]⟩:=by
 obtain ⟨t,rfl⟩:=h.sz.opened;refine ⟨t,?_⟩;rw [Z3x,show t 0=_ from h.e0,show t 3=_ from h.e3,show t 4=_ from h.e4,show t 5=_ from h.e5]
theorem Zo.rf {c:Bn}{b:List (Option Nat)}{vs:List Af}{L:Array Bool}(h:Zo g b3 b4 b5 a)(R:RF a b vs L c)(hd:[0,3,4,5].all (λs=>!b.contains (Ac s))=true:=by decide):Zo g b3 b4 b5 c:=by
 simp only [List.all_cons,List.all_nil,Bool.and_true,Bool.and_eq_true,Bool.not_eq_true'] at hd;obtain ⟨f,e,i,d⟩:=hd;exact ⟨⟨R.sz.trans h.sz.1,R.df.trans h.sz.2⟩,R.keep 0 _ f h.e0,R.keep 3 _ e h.e3,R.keep 4 _ i h.e4,R.keep 5 _ d h.e5⟩
def msV (m:Mg)(ve:Af):Array Af:=#[Aa O m.ki,Aa O m.fr,Aa O m.td,Aa O m.tm,Aa O m.li,Aa O m.lt,Aa O m.cm,Aa O m.ok,Aa O m.hi,ve]
def mg10:Array Af:=msV mg0 (I Ab 0 0)
structure FS (w0 w:Ag) (g:Nat) (v:Af) (l:List Int) (b3 b4 b5:Nat) (n:Nd) (x:RV) (k:Nat) (m:Mg) (ve:Af):Prop where
 dr:Dr w0 w g v l k [(b3,ndC n x,36),(b4,mg10,43),(b5,msV m ve,43)]
 es:Zh w w0.heap.size ve m.es
section
variable {w0 w w':Ag} {g:Nat} {v:Af} {l:List Int} {k k' b3 b4 b5:Nat} {n:Nd} {x:RV} {m m':Mg} {ve:Af}
theorem FS.call (h:FS w0 w g v l b3 b4 b5 n x k m ve)(c:Src w' g v l k')(b:w.grownBy w' (Ac g)):FS w0 w' g v l b3 b4 b5 n x k' m ve:=
 ⟨h.dr.call c b,h.es.block λq e=>b.block q (Aq h.es.2 q e).2 (λe'=>by injection e' with e';have d:=(Aq h.es.2 q e).1;have:=h.dr.gl;omega)⟩
theorem FS.below (h:FS w0 w g v l b3 b4 b5 n x k m ve)(b:Ai w.heap.size w w'):FS w0 w' g v l b3 b4 b5 n x k m ve:=⟨h.dr.below b,h.es.below b⟩
theorem FS.drew (h:FS w0 w g v l b3 b4 b5 n x k m ve):FS w0 w.drew g v l b3 b4 b5 n x k m ve:=h.below (Below.refl _ _).drew
theorem FS.pick (h:FS w0 w g v l b3 b4 b5 n x k m ve)(q:Nat)(hL:l.length<=1048576:=by assumption)(c:k<=900000000:=by omega)(d:0<q:=by omega)(b:q<=4294967296:=by omega) :
  Calls Ad 53 #[Ae (Ac ⟨g,0,Ab⟩),Aa O q] w λe w'=>e=.returned (Aa O (Z4 l k q:Nat))/\FS w0 w' g v l b3 b4 b5 n x (k+Zf q) m ve:=
 (Zk g w v l k q hL c d b h.dr.src).mono λe w' ⟨h1,h2,h3⟩=>⟨h1,h.call h2 h3⟩
theorem FS.pick1 (h:FS w0 w g v l b3 b4 b5 n x k m ve)(q:Nat)(hL:l.length<=1048576:=by assumption)(c:k<=900000000:=by omega)(d:0<q:=by omega)(b:q<=256:=by omega) :
  Calls Ad 53 #[Ae (Ac ⟨g,0,Ab⟩),Aa O q] w λe w'=>e=.returned (Aa O (Z4 l k q:Nat))/\FS w0 w' g v l b3 b4 b5 n x (k+1) m ve:=
 (h.pick q hL c d).mono λe w' ⟨h1,h2⟩=>⟨h1,by rwa [show Zf q=1 by unfold Zf;rw [if_pos b]] at h2⟩
theorem FS.nb (h:FS w0 w g v l b3 b4 b5 n x k m ve):Blk w b3 (ndC n x) 36:=h.dr.blk 0 rfl
theorem FS.rb (h:FS w0 w g v l b3 b4 b5 n x k m ve):Blk w b4 mg10 43:=h.dr.blk 1 rfl
theorem FS.mb (h:FS w0 w g v l b3 b4 b5 n x k m ve):Blk w b5 (msV m ve) 43:=h.dr.blk 2 rfl
theorem FS.wsize (h:FS w0 w g v l b3 b4 b5 n x k m ve):w0.heap.size<=w.heap.size:=h.dr.size
theorem FS.set (h:FS w0 w g v l b3 b4 b5 n x k m ve)(j:Nat)(d:j<9)(y:Int)(b:(msV m ve).setIfInBounds j (Aa O y)=msV m' ve:=by rfl)(c:m'.es=m.es:=by rfl):FS w0 (w.setCell ⟨b5,j,Ab⟩ (Aa O y)) g v l b3 b4 b5 n x k m' ve:=by
 have hd:=h.dr.set 2 rfl j (by show j<10;omega) (Aa O y);rw [b] at hd;exact ⟨hd,c▸h.es.block λq e=>Ak _ _ _ _ (Y5 h.es h.mb (by decide) q e)⟩
theorem FS.bare (h:FS w0 w g v l b3 b4 b5 n x k m ve):FS w0 (w.setCell ⟨b5,9,Ab⟩ (I Ab 0 0)) g v l b3 b4 b5 n x k { m with es:=[] } (I Ab 0 0):=
 ⟨h.dr.set 2 rfl 9 (by show 9<10;omega) (I Ab 0 0),Zh.nil _ _⟩
end
end
section
variable {w0 w:Ag}{g k b3 b4 b5:Nat}{v ve:Af}{l:List Int}{n:Nd}{xr:RV}{m:Mg}{Q:Ca->Bn->Ag->Prop}{K:Bn->Ag->Prop}{a:Bn}
theorem df2 (hL:l.length<=1048576)(q:k<=890000000)(f:Zo g b3 b4 b5 a)(e:FS w0 w g v l b3 b4 b5 n xr k m ve)(d:∀ a' w',Zo g b3 b4 b5 a'->Tv a' 19=.bool (decide (Z4 l k 14=0))->FS w0 w' g v l b3 b4 b5 n xr (k+1) m ve->K a' w'):(Z2 0 (Z2 2 (Z3 f54))).wp Ad (Exit.then K Q) a w:=by
 obtain ⟨t,rfl⟩:=f.op;clear f;have h:=Z0 e;clear e;obtain ⟨p,b⟩:=exq (Z4 l k 14);have i:=Z0 b;rw [<-b] at d
 clear b
 conv=>arg 2;whnf
 go_wp2_with (go_at_call 53;go_loud (refine (h.pick1 14).mono ?_;rw [<-i.out];rintro r j ⟨rfl,hd⟩;have c:=Z0 hd;clear hd))
 exact d _ _ {} (by simp [Bi,beq0]) c
theorem df4 (c:Zo g b3 b4 b5 a)(b:FS w0 w g v l b3 b4 b5 n xr k m ve)(d:∀ a' w',Zo g b3 b4 b5 a'->FS w0 w' g v l b3 b4 b5 n xr k { m with td:=n.id } ve->K a' w'):(Z2 3 (Z3 f54)).wp Ad (Exit.then K Q) a w:=by
 obtain ⟨t,rfl⟩:=c.op;clear c;have h:w.cell? ⟨b3,0,Ab⟩=Ac (Aa O n.id):=b.nb.cell 0;have f:w.cell? ⟨b5,2,Ab⟩=Ac (Aa O m.td):=b.mb.cell 2;have i:=b.mb.free 2;have e:=Z0 b;clear b
 conv=>arg 2;whnf
 go_wp2_with fail
 exact d _ _ {} (e.set 2 (by omega) _)
theorem df6 (c:Zo g b3 b4 b5 a)(b:FS w0 w g v l b3 b4 b5 n xr k m ve)(d:∀ a' w',Zo g b3 b4 b5 a'->Tv a' 41=.bool (m.fr == n.id)->FS w0 w' g v l b3 b4 b5 n xr k m ve->K a' w'):(Z2 0 (Z2 5 (Z3 f54))).wp Ad (Exit.then K Q) a w:=by
 obtain ⟨t,rfl⟩:=c.op;clear c;have f:w.cell? ⟨b3,0,Ab⟩=Ac (Aa O n.id):=b.nb.cell 0;have i:w.cell? ⟨b5,1,Ab⟩=Ac (Aa O m.fr):=b.mb.cell 1;have e:=Z0 b;clear b
 conv=>arg 2;whnf
 go_wp2_with fail
 exact d _ _ {} rfl e
theorem df7 (h:3<=n.sz/\n.sz<=7)(o:1<=n.id/\n.id<=n.sz)(d:Zo g b3 b4 b5 a)(b:FS w0 w g v l b3 b4 b5 n xr k m ve)(f:∀ a' w',Zo g b3 b4 b5 a'->FS w0 w' g v l b3 b4 b5 n xr k { m with fr:=1+n.id%n.sz } ve->K a' w'):(Za (Z1 1 (Z2 5 (Z3 f54)))).wp Ad (Exit.then K Q) a w:=by
 obtain ⟨t,rfl⟩:=d.op;clear d;have q:w.cell? ⟨b3,0,Ab⟩=Ac (Aa O n.id):=b.nb.cell 0;have p:w.cell? ⟨b3,1,Ab⟩=Ac (Aa O n.sz):=b.nb.cell 1;have u:w.cell? ⟨b5,1,Ab⟩=Ac (Aa O m.fr):=b.mb.cell 1;have r:=b.mb.free 1;have e:n.id.tmod n.sz=n.id%n.sz:=Int.tmod_eq_emod_of_nonneg (by omega);have c:¬ n.sz=0:=by omega
 have s:=Int.emod_nonneg n.id c;have x:=Int.emod_lt_of_pos n.id (show 0<n.sz by omega);have j:=wrx (n.id%n.sz)
 have i:=Z0 b;clear b
 conv=>arg 2;whnf
 go_wp2_with fail
 exact f _ _ {} (i.set 1 (by omega) _)
theorem df8t (hL:l.length<=1048576)(s:k<=890000000)(d:n.ro=1)(h:Zo g b3 b4 b5 a)(c:FS w0 w g v l b3 b4 b5 n xr k m ve)(f:∀ a' w',Zo g b3 b4 b5 a'->Tv a' 56=.bool (decide (¬ Z4 l k 3=0))->FS w0 w' g v l b3 b4 b5 n xr (k+1) m ve->K a' w'):(Z2 0 (Z2 6 (Z3 f54))).wp Ad (Exit.then K Q) a w:=by
 obtain ⟨t,rfl⟩:=h.op;clear h;have n6:w.cell? ⟨b3,6,Ab⟩=Ac (Aa O 1):=d▸c.nb.cell 6
 have i:=Z0 c;clear c;obtain ⟨p,b⟩:=exq (Z4 l k 3);have j:=Z0 b;rw [<-b] at f
 clear b
 conv=>arg 2;whnf
 go_wp2_with (go_at_call 53;go_loud (refine (i.pick1 3).mono ?_;rw [<-j.out];rintro r o ⟨rfl,hd⟩;have e:=Z0 hd;clear hd))
 exact f _ _ {} (by simp [Bi,bne,beq0]) e
theorem df8f (c:¬ n.ro=1)(d:Zo g b3 b4 b5 a)(b:FS w0 w g v l b3 b4 b5 n xr k m ve)(e:∀ a' w',Zo g b3 b4 b5 a'->Tv a' 56=.bool false->FS w0 w' g v l b3 b4 b5 n xr k m ve->K a' w'):(Z2 0 (Z2 6 (Z3 f54))).wp Ad (Exit.then K Q) a w:=by
 obtain ⟨t,rfl⟩:=d.op;clear d;have n6:w.cell? ⟨b3,6,Ab⟩=Ac (Aa O n.ro):=b.nb.cell 6;have h:(n.ro == 1)=false:=by simpa using c
 have f:=Z0 b;clear b
 conv=>arg 2;whnf
 go_wp2_with fail
 exact e _ _ {} rfl f
theorem df9 (c:Zo g b3 b4 b5 a)(b:FS w0 w g v l b3 b4 b5 n xr k m ve)(d:∀ a' w',Zo g b3 b4 b5 a'->FS w0 w' g v l b3 b4 b5 n xr k { m with ki:=2 } ve->K a' w'):(Za (Z1 1 (Z2 6 (Z3 f54)))).wp Ad (Exit.then K Q) a w:=by
 obtain ⟨t,rfl⟩:=c.op;clear c;have i:=b.mb.cell 0;have f:=b.mb.free 0;have e:=Z0 b;clear b
 conv=>arg 2;whnf
 go_wp2_with fail
 exact d _ _ {} (e.set 0 (by omega) _)
theorem df10t (hL:l.length<=1048576)(s:k<=890000000)(d:n.ro=2)(h:Zo g b3 b4 b5 a)(c:FS w0 w g v l b3 b4 b5 n xr k m ve)(f:∀ a' w',Zo g b3 b4 b5 a'->Tv a' 65=.bool (decide (¬ Z4 l k 3=0))->FS w0 w' g v l b3 b4 b5 n xr (k+1) m ve->K a' w'):(Z2 0 (Z2 7 (Z3 f54))).wp Ad (Exit.then K Q) a w:=by
 obtain ⟨t,rfl⟩:=h.op;clear h;have n6:w.cell? ⟨b3,6,Ab⟩=Ac (Aa O 2):=d▸c.nb.cell 6
 have i:=Z0 c;clear c;obtain ⟨p,b⟩:=exq (Z4 l k 3);have j:=Z0 b;rw [<-b] at f
 clear b
 conv=>arg 2;whnf
 go_wp2_with (go_at_call 53;go_loud (refine (i.pick1 3).mono ?_;rw [<-j.out];rintro r o ⟨rfl,hd⟩;have e:=Z0 hd;clear hd))
 exact f _ _ {} (by simp [Bi,bne,beq0]) e
theorem df10f (c:¬ n.ro=2)(d:Zo g b3 b4 b5 a)(b:FS w0 w g v l b3 b4 b5 n xr k m ve)(e:∀ a' w',Zo g b3 b4 b5 a'->Tv a' 65=.bool false->FS w0 w' g v l b3 b4 b5 n xr k m ve->K a' w'):(Z2 0 (Z2 7 (Z3 f54))).wp Ad (Exit.then K Q) a w:=by
 obtain ⟨t,rfl⟩:=d.op;clear d;have n6:w.cell? ⟨b3,6,Ab⟩=Ac (Aa O n.ro):=b.nb.cell 6;have h:(n.ro == 2)=false:=by simpa using c
 have f:=Z0 b;clear b
 conv=>arg 2;whnf
 go_wp2_with fail
 exact e _ _ {} rfl f
theorem df11 (c:Zo g b3 b4 b5 a)(b:FS w0 w g v l b3 b4 b5 n xr k m ve)(d:∀ a' w',Zo g b3 b4 b5 a'->FS w0 w' g v l b3 b4 b5 n xr k { m with ki:=4 } ve->K a' w'):(Za (Z1 1 (Z2 7 (Z3 f54)))).wp Ad (Exit.then K Q) a w:=by
 obtain ⟨t,rfl⟩:=c.op;clear c;have i:=b.mb.cell 0;have f:=b.mb.free 0;have e:=Z0 b;clear b
 conv=>arg 2;whnf
 go_wp2_with fail
 exact d _ _ {} (e.set 0 (by omega) _)
theorem df12t (hL:l.length<=1048576)(s:k<=890000000)(d:n.ro=3)(h:Zo g b3 b4 b5 a)(c:FS w0 w g v l b3 b4 b5 n xr k m ve)(f:∀ a' w',Zo g b3 b4 b5 a'->Tv a' 74=.bool (decide (¬ Z4 l k 3=0))->FS w0 w' g v l b3 b4 b5 n xr (k+1) m ve->K a' w'):(Z2 0 (Z2 8 (Z3 f54))).wp Ad (Exit.then K Q) a w:=by
 obtain ⟨t,rfl⟩:=h.op;clear h;have n6:w.cell? ⟨b3,6,Ab⟩=Ac (Aa O 3):=d▸c.nb.cell 6
 have i:=Z0 c;clear c;obtain ⟨p,b⟩:=exq (Z4 l k 3);have j:=Z0 b;rw [<-b] at f
 clear b
 conv=>arg 2;whnf
 go_wp2_with (go_at_call 53;go_loud (refine (i.pick1 3).mono ?_;rw [<-j.out];rintro r o ⟨rfl,hd⟩;have e:=Z0 hd;clear hd))
 exact f _ _ {} (by simp [Bi,bne,beq0]) e
theorem df12f (c:¬ n.ro=3)(d:Zo g b3 b4 b5 a)(b:FS w0 w g v l b3 b4 b5 n xr k m ve)(e:∀ a' w',Zo g b3 b4 b5 a'->Tv a' 74=.bool false->FS w0 w' g v l b3 b4 b5 n xr k m ve->K a' w'):(Z2 0 (Z2 8 (Z3 f54))).wp Ad (Exit.then K Q) a w:=by
 obtain ⟨t,rfl⟩:=d.op;clear d;have n6:w.cell? ⟨b3,6,Ab⟩=Ac (Aa O n.ro):=b.nb.cell 6;have h:(n.ro == 3)=false:=by simpa using c
 have f:=Z0 b;clear b
 conv=>arg 2;whnf
 go_wp2_with fail
 exact e _ _ {} rfl f
theorem df13 (c:Zo g b3 b4 b5 a)(b:FS w0 w g v l b3 b4 b5 n xr k m ve)(d:∀ a' w',Zo g b3 b4 b5 a'->FS w0 w' g v l b3 b4 b5 n xr k { m with ki:=6 } ve->K a' w'):(Za (Z1 1 (Z2 8 (Z3 f54)))).wp Ad (Exit.then K Q) a w:=by
 obtain ⟨t,rfl⟩:=c.op;clear c;have i:=b.mb.cell 0;have f:=b.mb.free 0;have e:=Z0 b;clear b
 conv=>arg 2;whnf
 go_wp2_with fail
 exact d _ _ {} (e.set 0 (by omega) _)
theorem df14 (hL:l.length<=1048576)(q:k<=890000000)(f:Zo g b3 b4 b5 a)(e:FS w0 w g v l b3 b4 b5 n xr k m ve)(d:∀ a' w',Zo g b3 b4 b5 a'->Tv a' 6=Aa O (Z4 l k 7:Nat)->FS w0 w' g v l b3 b4 b5 n xr (k+1) m ve->K a' w'):(Z2 9 (Z3 f54)).wp Ad (Exit.then K Q) a w:=by
 obtain ⟨t,rfl⟩:=f.op;clear f;have h:=Z0 e;clear e;obtain ⟨p,b⟩:=exq (Z4 l k 7);have i:=Z0 b;rw [<-b] at d
 clear b
 conv=>arg 2;whnf
 go_wp2_with (go_at_call 53;go_loud (refine (h.pick1 7).mono ?_;rw [<-i.out];rintro r j ⟨rfl,hd⟩;have c:=Z0 hd;clear hd))
 exact d _ _ {} rfl c
theorem df15 {e6:Af}(d:Zo g b3 b4 b5 a)(c:Tv a 6=e6)(b:FS w0 w g v l b3 b4 b5 n xr k m ve)(e:∀ a' w',Zo g b3 b4 b5 a'->Tv a' 6=e6->Tv a' 7=Aa O n.tm->FS w0 w' g v l b3 b4 b5 n xr k m ve->K a' w'):(Z2 10 (Z3 f54)).wp Ad (Exit.then K Q) a w:=by
 obtain ⟨t,rfl⟩:=d.op;clear d;rw [show t 6=_ from c];clear c;have h:w.cell? ⟨b3,4,Ab⟩=Ac (Aa O n.tm):=b.nb.cell 4;have f:=Z0 b;clear b
 conv=>arg 2;whnf
 go_wp2_with fail
 exact e _ _ {} rfl rfl f
end
theorem df5 {w0:Ag}{g k b b4 b5:Nat}{v:Af}{l:List Int}{n:Nd}{r:RV}{m:Mg}{s:Af}(hL:l.length<=1048576)(hk:k<=890000000)(ao:3<=n.sz/\n.sz<=7)(an:1<=n.id/\n.id<=n.sz){Q:Ca->Bn->Ag->Prop}{K:Bn->Ag->Prop}{a:Bn}{w:Ag}(c:Zo g b b4 b5 a)(hS:FS w0 w g v l b b4 b5 n r k m s)(j:∀ a' w',Zo g b b4 b5 a'->FS w0 w' g v l b b4 b5 n r (k+1) { m with fr:=1+(n.id+(Z4 l k (n.sz.toNat-1):Nat))%n.sz } s->K a' w'):(Z2 4 (Z3 f54)).wp Ad (Exit.then K Q) a w:=by
 obtain ⟨M,hM⟩:=exq (n.sz.toNat-1);rw [<-hM] at j;have au:(M:Int)=n.sz-1:=by omega
 obtain ⟨p,u⟩:=exq (Z4 l k M);have Hp:=Z0 u;rw [<-u] at j;have bp:p<M:=u▸Z6 _ _ _ (by omega)
 clear u hM;have ab:¬ n.sz=0:=by omega
 have x:(n.id+(p:Int)).tmod n.sz=(n.id+(p:Int))%n.sz:=Int.tmod_eq_emod_of_nonneg (by omega);have q1:=Int.emod_nonneg (n.id+(p:Int)) ab;have q2:=Int.emod_lt_of_pos (n.id+(p:Int)) (show 0<n.sz by omega);obtain ⟨y,hy⟩:=exq ((n.id+(p:Int))%n.sz);rw [<-hy] at x q1 q2 j;clear hy
 conv=>arg 2;whnf
 refine Z14 [Ac 24,Ac 25,Ac 26,Ac 27,Ac 28,Ac 29,Ac 30,Ac 31,Ac 32,Ac 33,Ac 34,Ac 35,Ac 36,Ab] [Ae (Ac ⟨b,0,Ab⟩),Aa O n.id,Ae (Ac ⟨g,0,Ab⟩),Ae (Ac ⟨b,1,Ab⟩),Aa O n.sz,Aa O (M:Int),Aa O (p:Int),Aa O (n.id+(p:Int)),Ae (Ac ⟨b,1,Ab⟩),Aa O n.sz,Aa O y,Aa O (1+y),Ae (Ac ⟨b5,1,Ab⟩),undef] (λW=>FS w0 W g v l b b4 b5 n r k m s) (λW=>FS w0 W g v l b b4 b5 n r (k+1) m s) (λW=>FS w0 W g v l b b4 b5 n r (k+1) { m with fr:=1+y } s) 6 13 (by kernel_rfl) rfl c.sz.1 rfl (by decide) (by decide) (by decide) [11,10,7] (.inr rfl) hS.drew (λa' w' L l R t=>j a' w' (c.rf R rfl) t) ⟨_,_,_,rfl,rfl,rfl,λu1 u2 u3 u4 u5=>?_⟩ (.inr ⟨_,_,_,rfl,rfl,rfl,λu1 u2 u3 u4 u5=>?_⟩) (Zq (Zq (Zq (Zq (Zq (Zq (Zq (Zq (Zq (Zq (Zq (Zq (Zq (Zq (lt_z) (λ_ _=>?_)) (λ_ _=>?_)) (λ_ _=>?_)) (λ_ _=>?_)) (λ_ _=>?_)) (λ_ _=>?_)) (λp q=>(p rfl).elim)) (λ_ _=>?_)) (λ_ _=>?_)) (λ_ _=>?_)) (λ_ _=>?_)) (λ_ _=>?_)) (λ_ _=>?_)) (λp q=>(q rfl).elim))
 all_goals clear j
 ·have i:=u3.y 2
  have o:=u3.y 5;refine Zs rfl rfl (Yg (N:=53) rfl (λ_ _=>by go_simp) #[Ae (Ac ⟨g,0,Ab⟩),Aa O (M:Int)] (by simp only [Bm,Bq,Bu,i,o]) ?_);refine Calls.mono (FS.pick1 u5 M) ?_;rw [<-Hp.out];rintro e w2 ⟨rfl,hd⟩;exact ⟨_,rfl,rfl,by rw [ifd];exact hd⟩
 ·have ac:=u3.y 12
  have aa:=u3.y 11;refine Zs rfl rfl (wp_st1 (.tmp 36) (.tmp 35) rfl ac aa ((FS.mb u5).cell 1) ((FS.mb u5).free 1) rfl ?_);exact ⟨rfl,FS.set u5 1 (by omega) _⟩
 ·refine PO.val λu1 u2 u3 u4 u5=>?_
  have f:=u4.z c.e3;go_simp
 ·refine PO.val λu1 u2 u3 u4 u5=>?_
  have z:u2.cell? ⟨b,0,Ab⟩=Ac (Aa O n.id):=by rcases u5 with h | h | h <;> exact (FS.nb h).cell 0
  have ad:=u3.z 0;go_simp
 ·refine PO.val λu1 u2 u3 u4 u5=>?_
  have am:=u4.z c.e0;go_simp
 ·refine PO.val λu1 u2 u3 u4 u5=>?_
  have f:=u4.z c.e3;go_simp
 ·refine PO.val λu1 u2 u3 u4 u5=>?_
  have d:u2.cell? ⟨b,1,Ab⟩=Ac (Aa O n.sz):=by rcases u5 with h | h | h <;> exact (FS.nb h).cell 1
  have ak:=u3.z 3;go_simp
 ·refine PO.val λu1 u2 u3 u4 u5=>?_
  have ae:=u3.z 4;go_simp;rw [Bl];omega
 ·refine PO.val λu1 u2 u3 u4 u5=>?_
  have ah:=u3.z 1;have aj:=u3.z 6;go_simp;rw [Bl];omega
 ·refine PO.val λu1 u2 u3 u4 u5=>?_
  have f:=u4.z c.e3;go_simp
 ·refine PO.val λu1 u2 u3 u4 u5=>?_
  have d:u2.cell? ⟨b,1,Ab⟩=Ac (Aa O n.sz):=by rcases u5 with h | h | h <;> exact (FS.nb h).cell 1
  have ag:=u3.z 8;go_simp
 ·refine PO.val λu1 u2 u3 u4 u5=>?_
  have al:=u3.z 7;have af:=u3.z 9;go_simp
 ·refine PO.val λu1 u2 u3 u4 u5=>?_
  have ai:=u3.z 10;go_simp;rw [Bl];omega
 ·refine PO.val λu1 u2 u3 u4 u5=>?_
  have aq:=u4.z c.e5;go_simp
theorem mgT_ok (l:List Int)(k:Nat):1<=(mgT l k).1/\(mgT l k).1<=1073741824/\(mgT l k).2<=k+7:=by
 have a:=Z6 l (k+1+1+1+1+1+1) 2;have b:=Z6 l (k+1+1) 9;unfold mgT;split <;> (dsimp only;omega)
theorem mgB_len (l:List Int)(k:Nat)(ki tm li lt:Int):(mgBd l k ki tm li lt).2.1.length<=32:=by
 unfold mgBd;split
 ·dsimp only
  rw [List.length_map,J9];have:=(mgN0_ok l (k+1)).1;unfold mgN;omega
 ·simp
theorem mgC_k (l:List Int)(k:Nat)(ki:Int):(mgCd l k ki).2<=k+1:=by
 unfold mgCd;split <;> (dsimp only;omega)
theorem mgD_k (l:List Int)(k:Nat)(ki ok li:Int):(mgD l k ki ok li).2.2<=k+2:=by
 unfold mgD;split
 ·dsimp only
  split <;> omega
 ·dsimp only;omega
theorem msgD_ok (l:List Int)(k:Nat):1<=(X8 l k).tm/\(X8 l k).tm<=1073741824/\0<=(X8 l k).lt/\(X8 l k).lt<=1073741824/\(X8 l k).es.length<=32/\(X8 l k).k<=k+700:=by
 have a:=mgT_ok l k;have b:=mgA_ok l (mgT l k).2 (mgK l k) (mgT l k).1 a.1 a.2.1;unfold X8;dsimp only;refine ⟨a.1,a.2.1,b.2.2.1,b.2.2.2.1,mgB_len _ _ _ _ _ _,?_⟩;refine Ap (mgD_k _ _ _ _ _) ?_;have d:=mgC_k l (mgBd l (mgA l (mgT l k).2 (mgK l k) (mgT l k).1).2.2 (mgK l k) (mgT l k).1 (mgA l (mgT l k).2 (mgK l k) (mgT l k).1).1 (mgA l (mgT l k).2 (mgK l k) (mgT l k).1).2.1).2.2 (mgK l k);have c:=mgB_k l (mgA l (mgT l k).2 (mgK l k) (mgT l k).1).2.2 (mgK l k) (mgT l k).1 (mgA l (mgT l k).2 (mgK l k) (mgT l k).1).1 (mgA l (mgT l k).2 (mgK l k) (mgT l k).1).2.1;omega
end Go.Proofs.YtmmpoppgabadmaaGreat
