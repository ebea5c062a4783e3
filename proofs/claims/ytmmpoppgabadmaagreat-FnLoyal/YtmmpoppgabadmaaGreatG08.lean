import Derived.Test.YtmmpoppgabadmaaGreatG06
import Derived.Deep.DeepCutAuto
set_option linter.unusedVariables false
set_option linter.unusedSimpArgs false
set_option maxRecDepth 100000
set_option maxHeartbeats 16000000
namespace Go.Proofs.YtmmpoppgabadmaaGreat
open Go.RowKit
end Go.Proofs.YtmmpoppgabadmaaGreat
