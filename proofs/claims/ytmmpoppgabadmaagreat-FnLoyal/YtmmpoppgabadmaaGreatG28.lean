import Derived.Test.YtmmpoppgabadmaaGreatG23
set_option linter.unusedVariables false
set_option linter.unusedSimpArgs false
set_option maxRecDepth 100000
set_option maxHeartbeats 16000000
namespace Go.Proofs.YtmmpoppgabadmaaGreat
open Go.RowKit
def e0 (t:Int):Ent:=⟨t,0,0,0,⟨#[]⟩,⟨#[]⟩,⟨#[]⟩⟩
end Go.Proofs.YtmmpoppgabadmaaGreat
