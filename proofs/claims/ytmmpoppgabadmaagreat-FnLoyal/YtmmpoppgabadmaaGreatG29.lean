import Derived.Test.YtmmpoppgabadmaaGreatG24
set_option linter.unusedVariables false
set_option linter.unusedSimpArgs false
set_option maxRecDepth 100000
set_option maxHeartbeats 16000000
namespace Go.Proofs.YtmmpoppgabadmaaGreat
open Go.RowKit
structure LdM (n:Nd) (N:Nat):Prop where
 ldb:LdB n N
 mtl:n.mt.length=N
 sel:n.se.length=N
 mt:∀ J (h:J<n.mt.length) (h':J<n.nx.length),(J:Int)+1≠n.id->0<=n.mt[J]/\n.mt[J]<n.nx[J]
end Go.Proofs.YtmmpoppgabadmaaGreat
