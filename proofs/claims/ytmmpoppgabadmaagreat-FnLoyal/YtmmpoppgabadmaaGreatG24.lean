import Derived.Test.YtmmpoppgabadmaaGreatG14
import Derived.Test.YtmmpoppgabadmaaGreatG22
set_option linter.unusedVariables false
set_option linter.unusedSimpArgs false
set_option maxRecDepth 100000
set_option maxHeartbeats 16000000
namespace Go.Proofs.YtmmpoppgabadmaaGreat
open Go.RowKit
theorem Es.elder {w w':World}{B:Nat}{v:Value}{l:List Ent}(h:Es w v l)(hlo:∀ k,v.ownBlock=some k->k<B)(hb:Below B w w'):Es w' v l:=by
 obtain ⟨hl,hf,a,cap,rfl,hc⟩:=h;refine ⟨hl,hf,a,cap,rfl,fun i hi=>?_⟩;obtain ⟨g,off,rfl,hj⟩:=hc i hi;refine ⟨g,off,rfl,fun j h=>?_⟩;obtain ⟨c0,c1,c2,c3,c4,c5,c6⟩:=hj j h;have hg:g<B:=hlo g rfl;exact ⟨(hb.cell (p:=⟨g,_,none⟩) hg).trans c0,(hb.cell (p:=⟨g,_,none⟩) hg).trans c1,(hb.cell (p:=⟨g,_,none⟩) hg).trans c2,(hb.cell (p:=⟨g,_,none⟩) hg).trans c3,(hb.cell (p:=⟨g,_,none⟩) hg).trans c4,(hb.cell (p:=⟨g,_,none⟩) hg).trans c5,(hb.cell (p:=⟨g,_,none⟩) hg).trans c6⟩
end Go.Proofs.YtmmpoppgabadmaaGreat
