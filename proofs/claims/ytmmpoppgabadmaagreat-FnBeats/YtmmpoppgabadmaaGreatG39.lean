import Derived.Test.YtmmpoppgabadmaaGreatG38
import Derived.Test.YtmmpoppgabadmaaGreatG06
set_option linter.unusedVariables false
set_option linter.unusedSimpArgs false
set_option maxRecDepth 100000
set_option maxHeartbeats 16000000
namespace Go.Proofs.YtmmpoppgabadmaaGreat
open Go.RowKit Go.Maps
end Go.Proofs.YtmmpoppgabadmaaGreat
namespace Go.Proofs.YtmmpoppgabadmaaGreat
open Go.RowKit Go.Maps
end Go.Proofs.YtmmpoppgabadmaaGreat
namespace Go.Proofs.YtmmpoppgabadmaaGreat
open Go.RowKit Go.Maps
end Go.Proofs.YtmmpoppgabadmaaGreat
namespace Go.Proofs.YtmmpoppgabadmaaGreat
open Go.RowKit Go.Maps
structure LogR (n:Nd):Prop where
 rise:n.log.Pairwise (fun a c=>a.t<=c.t)
 top:∀ e∈n.log,e.t<=n.tm
end Go.Proofs.YtmmpoppgabadmaaGreat
