import Derived.Test.YtmmpoppgabadmaaGreatG10
import Derived.Deep.DeepCutAuto
set_option linter.unusedVariables false
set_option linter.unusedSimpArgs false
set_option maxRecDepth 100000
set_option maxHeartbeats 16000000
namespace Go.Proofs.YtmmpoppgabadmaaGreat
open Go.RowKit
structure LdB (n:Nd) (N:Nat):Prop where
 nxl:n.nx.length=N
 stl:n.st.length=N
 nx:∀ J (h:J<n.nx.length),(J:Int)+1≠n.id->∃ P:Nat,P<=n.log.length/\n.nx[J]=(P:Int)+1
end Go.Proofs.YtmmpoppgabadmaaGreat
