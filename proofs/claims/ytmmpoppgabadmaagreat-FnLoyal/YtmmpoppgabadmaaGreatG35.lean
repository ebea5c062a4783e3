import Derived.Test.YtmmpoppgabadmaaGreatG34
set_option linter.unusedVariables false
set_option linter.unusedSimpArgs false
set_option maxRecDepth 100000
set_option maxHeartbeats 16000000
namespace Go.Proofs.YtmmpoppgabadmaaGreat
open Go.RowKit Go.Maps
end Go.Proofs.YtmmpoppgabadmaaGreat
