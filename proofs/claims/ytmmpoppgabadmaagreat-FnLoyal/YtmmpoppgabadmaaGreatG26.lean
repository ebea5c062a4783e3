import Derived.Test.YtmmpoppgabadmaaGreatG22
import Derived.Test.YtmmpoppgabadmaaGreatG14
set_option linter.unusedVariables false
set_option linter.unusedSimpArgs false
set_option maxRecDepth 100000
set_option maxHeartbeats 16000000
namespace Go.Proofs.YtmmpoppgabadmaaGreat
open Go.RowKit
structure LdT (n:Nd) (N:Nat):Prop where
 ldb:LdB n N
 sel:n.se.length=N
 se:∀ y∈n.se,0<=y/\y<=n.nw
 st:∀ y∈n.st,0<=y/\y<=n.nw
end Go.Proofs.YtmmpoppgabadmaaGreat
